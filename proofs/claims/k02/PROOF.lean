import PyProof.Rows.All
import Wide.All
import OpenK.AllK
import Wide.FinOn
import KE.KExcInit
import KE.KExcIs
import KE.KExcLine
import KE.RegKIsAll
import KE.RegKTryMore
import HandS.ForMost
import HandS.Evl
import HandS.IsInst
import HandS.DictComp
import HandS.SetKeys
import HandS.Strs
import HandS.Wide
import HandS.Walk
import HandS.Conv
import HandS.More
import HandS.TupAny
import HandS.Rev
import HandS.SetBool
import HandS.Exc
import HandS.ExcInit
import HandS.ExcField
import HandS.CallSlots
import HandS.WordsExc
import PySem.Challenge.RW_statestay_k02_shape_refused
set_option Elab.async false
set_option linter.all false
set_option maxRecDepth 100000
set_option maxHeartbeats 3100000
/-! Sets of texts of any size: set(xs) of a list or a tuple, and their length. -/
namespace Ssb
open PySem PySem.Spec PyProof.Rows L2

/-- acc and, behind it, what of the list was not met before -/
def met : List Str → List Str → List Str
  | acc, [] => acc
  | acc, x :: r => met (if x ∈ acc then acc else acc ++ [x]) r
theorem met_len : ∀ (l acc : List Str), (met acc l).length ≤ acc.length + l.length
  | [], acc => Nat.le_refl _
  | x :: r, acc => by
    have h := met_len r (if x ∈ acc then acc else acc ++ [x])
    show (met (if x ∈ acc then acc else acc ++ [x]) r).length ≤ acc.length + (r.length + 1)
    refine Nat.le_trans h ?_
    by_cases hx : x ∈ acc
    · rw [if_pos hx]; omega
    · rw [if_neg hx, List.length_append, List.length_singleton]; omega
theorem met_nodup : ∀ (l acc : List Str), (acc ++ l).Nodup → met acc l = acc ++ l
  | [], acc, _ => by rw [List.append_nil]; rfl
  | x :: r, acc, h => by
    have hx : ¬ x ∈ acc := fun hm => by
      have := (List.nodup_append.mp h).2.2 x hm x List.mem_cons_self
      exact this rfl
    show met (if x ∈ acc then acc else acc ++ [x]) r = acc ++ x :: r
    rw [if_neg hx, met_nodup r (acc ++ [x]) (by rw [List.append_assoc]; exact h), List.append_assoc]
    rfl
theorem met_in (acc : List Str) (x k : Str) : (decide (k ∈ acc) || decide (k = x)) = decide (k ∈ (if x ∈ acc then acc else acc ++ [x])) := by
  by_cases hx : x ∈ acc
  · rw [if_pos hx]
    by_cases e : k = x
    · rw [e, decide_eq_true hx]; rfl
    · rw [decide_eq_false e, Bool.or_false]
  · rw [if_neg hx]
    by_cases e : k = x
    · rw [e, decide_eq_true rfl, Bool.or_true, decide_eq_true (List.mem_append_right _ List.mem_cons_self)]
    · by_cases h2 : k ∈ acc
      · rw [decide_eq_true h2, decide_eq_true (List.mem_append_left _ h2)]; rfl
      · rw [decide_eq_false h2, decide_eq_false e, decide_eq_false]; rfl
        intro z
        rcases List.mem_append.mp z with z | z
        · exact h2 z
        · exact e (List.mem_singleton.mp z)
theorem met_size (acc : List Str) (x : Str) : (if decide (x ∈ acc) = true then acc.length else acc.length + 1) = (if x ∈ acc then acc else acc ++ [x]).length := by
  by_cases hx : x ∈ acc
  · rw [if_pos hx, decide_eq_true hx, if_pos rfl]
  · rw [if_neg hx, decide_eq_false hx, if_neg Bool.false_ne_true, List.length_append]; rfl
theorem cod_some {xs : List Str} {i : Nat} (h : i < xs.length) : xs.drop i = xs.getD i Str.empty :: xs.drop (i + 1) := by
  rw [List.drop_eq_getElem_cons h, List.getD_eq_getElem?_getD, List.getElem?_eq_getElem h, Option.getD_some]

section
variable {prog : Program} {w : World} {A : Around} {R : Result → Shared → Prop} {I S : Addr} {fp wr : List Addr} {G : Array GenState → Array GenState → Prop} {n : Nat} {P : Nat → Value → Prop} {St : Nat → Shared → Prop}
/-- set.update's own loop over texts -/
theorem upd_loop (W : WalksS prog w A.in1 I fp wr G n P St) (nS : S ∉ fp) {xs : List Str} (len : xs.length = n) (val : ∀ i v, P i v → ∃ t, v = .str (xs.getD i Str.empty) t) (few : n + 1 < scanBound) :
    ∀ (m i : Nat) (acc : List Str) (s : Shared), i + m = n → acc.length ≤ i → St i s → s.heap.SetOf (PySem.strKind prog w) S (fun k => decide (k ∈ acc)) acc.length →
      (∀ s2, Moved (S :: wr) G s s2 → s2.heap.SetOf (PySem.strKind prog w) S (fun k => decide (k ∈ met acc (xs.drop i))) (met acc (xs.drop i)).length → R (.ok (.ret .none)) s2) →
      codeAny (model prog w) A (.builtin "set.update.loop" ⟨[.ref S, .ref I], []⟩) R s := by
  have nw : S ∉ wr := fun hm => nS (W.sub S hm)
  have up : ∀ b, b ∈ wr → b ∈ S :: wr := fun b => List.mem_cons_of_mem S
  have stays : ∀ {s s2 : Shared} {T : Str → Bool} {c : Nat}, Moved wr G s s2 → s.heap.SetOf (PySem.strKind prog w) S T c → s2.heap.SetOf (PySem.strKind prog w) S T c := fun mv ⟨o, a1, a2, a3, q, r⟩ => ⟨o, a1, a2, a3, mv.heap S o nw q, r⟩
  intro m
  induction m with
  | zero =>
    intro i acc s e _ st so k
    obtain rfl : i = n := e
    refine codeAny_builtin PyProof.Rows.F.entry_set_update_loop ?_
    rw [Around.under_plainId PyProof.Rows.F.plain_set_update_loop]
    refine wpAny_bind (W.done s _ _ st fun s2 mv => wpAny_pure (k s2 (mv.mono up) ?_))
    rw [List.drop_of_length_le (Nat.le_of_eq len)]
    exact stays mv so
  | succ m ih =>
    intro i acc s e la st so k
    have lt : i < n := by omega
    refine codeAny_builtin PyProof.Rows.F.entry_set_update_loop ?_
    rw [Around.under_plainId PyProof.Rows.F.plain_set_update_loop]
    refine wpAny_bind (W.item i s _ _ lt st fun v s2 pv st2 mv => ?_)
    obtain ⟨t, rfl⟩ := val i v pv
    have so2 := stays mv so
    refine wpAny_bind (wpAny_holding ?_)
    unfold setAdd
    refine wpAny_holding (wpAny_bind ((PySem.strKind prog w).pyHash (k := xs.getD i Str.empty) (strKind_is _ _ _ _) ?_))
    refine wpAny_setAddHashed_of (knd := PySem.strKind prog w) (s := { s2 with toks := s2.toks + 1 }) (strKind_is _ _ _ _) rfl so2 (by omega) fun h3 sb so3 => ?_
    have out : ∀ b, b ≠ S → ∀ o, s2.heap.get? b = some o → h3.get? b = some o := fun b hb o q => (sb.2 b hb).trans q
    have so4 : h3.SetOf (PySem.strKind prog w) S (fun k' => decide (k' ∈ (if xs.getD i Str.empty ∈ acc then acc else acc ++ [xs.getD i Str.empty]))) (if xs.getD i Str.empty ∈ acc then acc else acc ++ [xs.getD i Str.empty]).length :=
      SetOf_congr so3 (fun k' => met_in _ _ _) (met_size _ _)
    have len4 : (if xs.getD i Str.empty ∈ acc then acc else acc ++ [xs.getD i Str.empty]).length ≤ i + 1 := by
      by_cases hx : xs.getD i Str.empty ∈ acc
      · rw [if_pos hx]; omega
      · rw [if_neg hx, List.length_append, List.length_singleton]; omega
    refine wpAny_pure ⟨plainId_quiet PyProof.Rows.F.plain_set_update_loop _, ih (i + 1) _ { s2 with heap := h3, toks := s2.toks + 1 } (by omega) len4 (W.frame _ s2 _ _ st2 (Nat.le_succ _) fun b hb o q => out b (fun z => nS (z ▸ hb)) o q) so4 fun s5 mv5 so5 => k s5 ?_ ?_⟩
    · exact Moved.trans W.gtrans ((mv.mono up).then_heap (Nat.le_succ _) fun b o hb q => out b (fun z => hb (z ▸ List.mem_cons_self)) o q) mv5
    · rw [cod_some (by omega)]
      exact so5
end

/-- what stands at the new set's place at first -/
abbrev bare (led : Bool) : Obj := { cls := .type "set", dict := none, data := .set #[] 0 (.fresh 0 0 led) }
section
variable {prog : Program} {w : World} {A : Around} {E : Value → Shared → Prop} {s : Shared} {src : Addr} {items : Array Value} {xs : List Str}
set_option maxHeartbeats 3200000 in
/-- set(list of texts) -/
theorem set_list {Q : Value → Shared → Prop} (calm : A.handled = none) (at_ : s.heap.IsList src items) (are : PyProof.Rows.StrsAre items.toList xs) (few : xs.length + 1 < scanBound)
    (k : ∀ (h2 : Heap) (tk : Nat), h2.SetOf (PySem.strKind prog w) s.heap.objs.size (fun k' => decide (k' ∈ met [] xs)) (met [] xs).length → (∀ b o, s.heap.get? b = some o → h2.get? b = some o) → Q (.ref s.heap.objs.size) { s with heap := h2, toks := tk }) :
    wpAny (model prog w) A (call (.type "set") [.ref src]) Q E s := by
  have m1 := PySem.F.called_set.mro
  obtain ⟨_, _, hm⟩ := m1
  have made := PySem.F.called_set.made
  have below := PySem.F.called_set.sub
  refine wpAny_call (codeAny_of_tree ?_)
  show wpAny _ _ (callAny (Value.type "set") ⟨[Value.ref src], []⟩) _ _ _
  refine wpAny_pure (And.intro (Code.quiet_builtin _ (by decide +kernel)) (codeAny_builtin PySem.F.entry_type_call ?_))
  rw [Around.under_plain (weight_type_call_type "set" [Value.ref src] []) rfl]
  have n1 := PySem.F.called_set.notType
  have n2 := PySem.F.called_set.canCreate
  have n3 := PySem.F.typeCall_set_1 (Value.ref src)
  repeat any_goals first | wp_step | assumption
  refine codeAny_mono (code_set_new_1 (Value.ref src) (E := E) (Q₁ := fun x s1 => ∃ led, x = .ref s.heap.objs.size ∧ s1 = { s with heap := s.heap.push (bare led) }) fun led => ⟨led, rfl, rfl⟩) fun r s1 back => ?_
  cases r with
  | error e => exact back
  | ok fl =>
    cases fl with
    | next => exact back.elim
    | brk => exact back.elim
    | cont => exact back.elim
    | ret x =>
      obtain ⟨led, rfl, rfl⟩ := back
      have gS : (s.heap.push (bare led)).get? s.heap.objs.size = some (bare led) := Heap.get?_push_size _ rfl
      have tS : Shared.TypeIs { s with heap := s.heap.push (bare led) } (.ref s.heap.objs.size) "set" := ⟨_, gS, rfl⟩
      have i1 := PySem.F.called_set.init.lookup
      have i2 := PySem.F.called_set.init.bind (.ref s.heap.objs.size)
      repeat any_goals first | wp_step | assumption
      refine codeAny_mono (codeAny_call_builtin (R := wants (fun r s2 => r = .none ∧ ∃ h2 tk, s2 = { s with heap := h2, toks := tk } ∧ h2.SetOf (PySem.strKind prog w) s.heap.objs.size (fun k' => decide (k' ∈ met [] xs)) (met [] xs).length ∧
        ∀ b o, s.heap.get? b = some o → h2.get? b = some o) E) PySem.F.called_set.init.plain PySem.F.entry_set_init (check_set_init_1 tS ?_)) fun r2 s2 back2 => ?_
      · obtain ⟨ol, gl, cl, nl, dl⟩ := at_
        obtain ⟨ocls, odict, odata, oslots⟩ := ol
        simp only at cl dl
        subst cl; subst dl
        have gl' : (s.heap.push (bare led)).get? src = some { cls := .type "list", dict := odict, data := .seq items nl, slots := oslots } := Heap.get?_push_of_some _ gl
        have u1 := PySem.F.sub_list_set
        have u2 := PySem.F.sub_list_frozenset
        have u3 : (Value.type "list" == Value.type "dict") = false := by decide
        have at2 : (s.heap.push (bare led)).IsList src items := ⟨_, gl', rfl, nl, rfl⟩
        unfold Builtin.«set.__init__» noKeywords Builtin.Frozenset.updateFrom
        generalize hide : pyIter = PI
        wp_walk
        subst hide
        refine wpAny_pyIter_list at2 (wpAny_bind (wpAny_runValue ?_))
        have small : src < s.heap.objs.size := Heap.lt_size gl
        have calm3 : A.in1.in1.in1.handled = none := by simp [calm]
        have z1 : (s.heap.push (bare led)).objs.size = s.heap.objs.size + 1 := Heap.size_push ..
        have d1 : src ≠ (s.heap.push (bare led)).objs.size := by rw [z1]; exact Nat.ne_of_lt (Nat.lt_succ_of_lt small)
        have d2 : s.heap.objs.size ∉ [(s.heap.push (bare led)).objs.size, src] := by
          rw [z1]
          intro hm2
          rcases List.mem_cons.mp hm2 with e | hm2
          · exact Nat.ne_of_lt (Nat.lt_succ_self _) e
          · exact Nat.ne_of_gt small (List.mem_singleton.mp hm2)
        have sz : xs.length = items.size := by rw [← StrsAre.len_eq are, Array.length_toList]
        have vals : ∀ (i : Nat) (v : Value), items[i]? = some v → ∃ t, v = .str (xs.getD i Str.empty) t := fun i v hv => SS.strs_at are i v (by rw [Array.getElem?_toList]; exact hv)
        refine upd_loop (S := s.heap.objs.size) ((Walks.list calm3 _ src d1 items).toS) d2 sz vals (by omega) items.size 0 [] _ (Nat.zero_add _) (Nat.le_refl _) ⟨⟨_, Heap.get?_push_size _ rfl, rfl, rfl⟩, (at2.push _)⟩ ?first ?last
        case first =>
          exact SetOf_congr ((setObjOf_fresh (knd := PySem.strKind prog w) led).setOf (Heap.get?_push_of_some _ gS) (by decide)) (fun _ => rfl) rfl
        case last =>
          intro s' mv so
          obtain ⟨h', g', d', tk', os'⟩ := s'
          obtain rfl : g' = s.gens := mv.gens
          obtain rfl : d' = s.drawn := mv.drawn
          obtain rfl : os' = s.os := mv.os
          refine wpAny_pure (wpAny_pure ⟨rfl, h', tk', rfl, so, fun b o q => ?_⟩)
          have lb : b < s.heap.objs.size := Heap.lt_size q
          refine mv.heap b o (fun hm2 => ?_) (Heap.get?_push_of_some _ (Heap.get?_push_of_some _ q))
          rcases List.mem_cons.mp hm2 with e | hm2
          · exact Nat.ne_of_lt lb e
          · have e2 := List.mem_singleton.mp hm2
            rw [z1] at e2
            exact Nat.ne_of_lt (Nat.lt_succ_of_lt lb) e2
      · cases r2 with
        | error e => exact back2
        | ok fl2 =>
          cases fl2 with
          | next => exact back2.elim
          | brk => exact back2.elim
          | cont => exact back2.elim
          | ret r =>
            obtain ⟨rfl, h2, tk, rfl, so, kp⟩ := back2
            repeat any_goals first | wp_step | assumption
            exact k _ _ so kp
set_option maxHeartbeats 3200000 in
/-- set(tuple of texts) -/
theorem set_tuple {Q : Value → Shared → Prop} (calm : A.handled = none) (at_ : s.heap.IsTuple src items) (are : PyProof.Rows.StrsAre items.toList xs) (few : xs.length + 1 < scanBound)
    (k : ∀ (h2 : Heap) (tk : Nat), h2.SetOf (PySem.strKind prog w) s.heap.objs.size (fun k' => decide (k' ∈ met [] xs)) (met [] xs).length → (∀ b o, s.heap.get? b = some o → h2.get? b = some o) → Q (.ref s.heap.objs.size) { s with heap := h2, toks := tk }) :
    wpAny (model prog w) A (call (.type "set") [.ref src]) Q E s := by
  have m1 := PySem.F.called_set.mro
  obtain ⟨_, _, hm⟩ := m1
  have made := PySem.F.called_set.made
  have below := PySem.F.called_set.sub
  refine wpAny_call (codeAny_of_tree ?_)
  show wpAny _ _ (callAny (Value.type "set") ⟨[Value.ref src], []⟩) _ _ _
  refine wpAny_pure (And.intro (Code.quiet_builtin _ (by decide +kernel)) (codeAny_builtin PySem.F.entry_type_call ?_))
  rw [Around.under_plain (weight_type_call_type "set" [Value.ref src] []) rfl]
  have n1 := PySem.F.called_set.notType
  have n2 := PySem.F.called_set.canCreate
  have n3 := PySem.F.typeCall_set_1 (Value.ref src)
  repeat any_goals first | wp_step | assumption
  refine codeAny_mono (code_set_new_1 (Value.ref src) (E := E) (Q₁ := fun x s1 => ∃ led, x = .ref s.heap.objs.size ∧ s1 = { s with heap := s.heap.push (bare led) }) fun led => ⟨led, rfl, rfl⟩) fun r s1 back => ?_
  cases r with
  | error e => exact back
  | ok fl =>
    cases fl with
    | next => exact back.elim
    | brk => exact back.elim
    | cont => exact back.elim
    | ret x =>
      obtain ⟨led, rfl, rfl⟩ := back
      have gS : (s.heap.push (bare led)).get? s.heap.objs.size = some (bare led) := Heap.get?_push_size _ rfl
      have tS : Shared.TypeIs { s with heap := s.heap.push (bare led) } (.ref s.heap.objs.size) "set" := ⟨_, gS, rfl⟩
      have i1 := PySem.F.called_set.init.lookup
      have i2 := PySem.F.called_set.init.bind (.ref s.heap.objs.size)
      repeat any_goals first | wp_step | assumption
      refine codeAny_mono (codeAny_call_builtin (R := wants (fun r s2 => r = .none ∧ ∃ h2 tk, s2 = { s with heap := h2, toks := tk } ∧ h2.SetOf (PySem.strKind prog w) s.heap.objs.size (fun k' => decide (k' ∈ met [] xs)) (met [] xs).length ∧
        ∀ b o, s.heap.get? b = some o → h2.get? b = some o) E) PySem.F.called_set.init.plain PySem.F.entry_set_init (check_set_init_1 tS ?_)) fun r2 s2 back2 => ?_
      · obtain ⟨ol, gl, cl, nl, dl⟩ := at_
        obtain ⟨ocls, odict, odata, oslots⟩ := ol
        simp only at cl dl
        subst cl; subst dl
        have gl' : (s.heap.push (bare led)).get? src = some { cls := .type "tuple", dict := odict, data := .seq items nl, slots := oslots } := Heap.get?_push_of_some _ gl
        have u1 := PySem.F.sub_tuple_set
        have u2 := PySem.F.sub_tuple_frozenset
        have u3 : (Value.type "tuple" == Value.type "dict") = false := by decide
        have at2 : (s.heap.push (bare led)).IsTuple src items := ⟨_, gl', rfl, nl, rfl⟩
        unfold Builtin.«set.__init__» noKeywords Builtin.Frozenset.updateFrom
        generalize hide : pyIter = PI
        wp_walk
        subst hide
        refine wpAny_pyIter_tuple at2 (wpAny_bind (wpAny_runValue ?_))
        have small : src < s.heap.objs.size := Heap.lt_size gl
        have calm3 : A.in1.in1.in1.handled = none := by simp [calm]
        have z1 : (s.heap.push (bare led)).objs.size = s.heap.objs.size + 1 := Heap.size_push ..
        have d1 : src ≠ (s.heap.push (bare led)).objs.size := by rw [z1]; exact Nat.ne_of_lt (Nat.lt_succ_of_lt small)
        have d2 : s.heap.objs.size ∉ [(s.heap.push (bare led)).objs.size, src] := by
          rw [z1]
          intro hm2
          rcases List.mem_cons.mp hm2 with e | hm2
          · exact Nat.ne_of_lt (Nat.lt_succ_self _) e
          · exact Nat.ne_of_gt small (List.mem_singleton.mp hm2)
        have sz : xs.length = items.size := by rw [← StrsAre.len_eq are, Array.length_toList]
        have vals : ∀ (i : Nat) (v : Value), items[i]? = some v → ∃ t, v = .str (xs.getD i Str.empty) t := fun i v hv => SS.strs_at are i v (by rw [Array.getElem?_toList]; exact hv)
        refine upd_loop (S := s.heap.objs.size) ((Walks.tuple calm3 _ src d1 items).toS) d2 sz vals (by omega) items.size 0 [] _ (Nat.zero_add _) (Nat.le_refl _) ⟨⟨_, Heap.get?_push_size _ rfl, rfl, rfl⟩, (at2.push _)⟩ ?first ?last
        case first =>
          exact SetOf_congr ((setObjOf_fresh (knd := PySem.strKind prog w) led).setOf (Heap.get?_push_of_some _ gS) (by decide)) (fun _ => rfl) rfl
        case last =>
          intro s' mv so
          obtain ⟨h', g', d', tk', os'⟩ := s'
          obtain rfl : g' = s.gens := mv.gens
          obtain rfl : d' = s.drawn := mv.drawn
          obtain rfl : os' = s.os := mv.os
          refine wpAny_pure (wpAny_pure ⟨rfl, h', tk', rfl, so, fun b o q => ?_⟩)
          have lb : b < s.heap.objs.size := Heap.lt_size q
          refine mv.heap b o (fun hm2 => ?_) (Heap.get?_push_of_some _ (Heap.get?_push_of_some _ q))
          rcases List.mem_cons.mp hm2 with e | hm2
          · exact Nat.ne_of_lt lb e
          · have e2 := List.mem_singleton.mp hm2
            rw [z1] at e2
            exact Nat.ne_of_lt (Nat.lt_succ_of_lt lb) e2
      · cases r2 with
        | error e => exact back2
        | ok fl2 =>
          cases fl2 with
          | next => exact back2.elim
          | brk => exact back2.elim
          | cont => exact back2.elim
          | ret r =>
            obtain ⟨rfl, h2, tk, rfl, so, kp⟩ := back2
            repeat any_goals first | wp_step | assumption
            exact k _ _ so kp
end
end Ssb

/-! Sets of texts as tracked things: set(xs), {text for ..}, their len. -/
namespace Ssb
open PySem PySem.Spec PyProof.Rows L2

/-- at a: the set of the texts of l -/
def Txs (P : Program) (w : World) (a : Addr) (l : List Str) : HO := .ext fun h => h.SetOf (PySem.strKind P w) a (fun k => decide (k ∈ l)) l.length
/-- l with x at its end, if it is not there -/
def put1 (l : List Str) (x : Str) : List Str := if x ∈ l then l else l ++ [x]
theorem put1_len (l : List Str) (x : Str) : (put1 l x).length ≤ l.length + 1 := by
  unfold put1
  by_cases h : x ∈ l
  · rw [if_pos h]; omega
  · rw [if_neg h, List.length_append]; exact Nat.le_refl _
section
variable {P : Program} {w : World} {X : Cx}
theorem txs_ok {H : Hp} {h : Heap} {a : Addr} {l : List Str} (r : h.SetOf (PySem.strKind P w) a (fun k => decide (k ∈ l)) l.length) : ObjOk P w H h a (Txs P w a l) := by
  refine ⟨r, ?_, fun g1 g2 p k => ?_⟩
  · obtain ⟨o, _, _, _, q, _⟩ := r; exact ⟨o, q⟩
  · obtain ⟨o, b1, b2, b3, q, r2⟩ := p; exact ⟨o, b1, b2, b3, k o q, r2⟩
theorem txs_at {pins : List (Addr × Obj)} {σ : L2.St} {H : Hp} {s : Shared} {a : Addr} {l : List Str} (I : Inv X pins σ H s) (e : H a = some (Txs X.prog X.w a l)) : s.heap.SetOf (PySem.strKind X.prog X.w) a (fun k => decide (k ∈ l)) l.length := by
  have z : ObjOk X.prog X.w H s.heap a (.ext fun h => h.SetOf (PySem.strKind X.prog X.w) a (fun k => decide (k ∈ l)) l.length) := I.hok a _ e
  exact z.1
/-- one text more -/
theorem txs_add {pins : List (Addr × Obj)} {σ : L2.St} {H : Hp} {s : Shared} {E : Value → Shared → Prop} {a : Addr} {l : List Str} {x : Str} {t : Tok} {Q : Value → Shared → Prop} (I : Inv X pins σ H s) (e : H a = some (Txs X.prog X.w a l)) (few : l.length + 1 < scanBound)
    (k : ∀ s2, Inv X pins σ (upd H a (Txs X.prog X.w a (put1 l x))) s2 → Q .none s2) : wpAny (model X.prog X.w) X.A (call (.builtin "set.add") [.ref a, .str x t]) Q E s := by
  refine PySem.call_set_add (knd := PySem.strKind X.prog X.w) (strKind_is _ _ _ _) rfl (txs_at I e) few fun h2 sb so => ?_
  have so2 : h2.SetOf (PySem.strKind X.prog X.w) a (fun k' => decide (k' ∈ put1 l x)) (put1 l x).length := SetOf_congr so (fun k' => met_in l x k') (met_size l x)
  have there : ∃ u, h2.get? a = some u := by
    obtain ⟨o, _, _, _, q, _⟩ := so2; exact ⟨o, q⟩
  exact k _ (I.write (t' := s.toks + 1) (x := a) (e := a) (by rw [e]; trivial) (.inl rfl) (fun b u hb q => (sb.2 b hb).trans q) there (txs_ok so2))

/-! ### set(xs) -/
def rSetS (K : PySem.W.Frag) (P : Program) (w : World) : List V → Hp → VK → Prop := fun vs H Q => ∃ (a : Addr) (xs : List Str), vs = [.ref a] ∧ (SqL K H a (xs.map V.str) ∨ SqT K H a (xs.map V.str)) ∧ xs.length + 1 < scanBound ∧
  ∀ p, H p = none → Q (.ref p) (upd H p (Txs P w p (met [] xs)))
theorem cr_setS (hc : X.calm = true) : CallR X (.type "set") (rSetS X.K X.prog X.w) := by
  intro pins s σ H vs us Q I r q
  obtain ⟨a, xs, rfl, sq, few, k⟩ := q
  rw [Vals.ref1 r]
  have new : H s.heap.objs.size = none := I.hok.fresh (Nat.le_refl _)
  have done : ∀ (h2 : Heap) (tk : Nat), h2.SetOf (PySem.strKind X.prog X.w) s.heap.objs.size (fun k' => decide (k' ∈ met [] xs)) (met [] xs).length → (∀ b o, s.heap.get? b = some o → h2.get? b = some o) → EP X pins σ Q (.ref s.heap.objs.size) { s with heap := h2, toks := tk } :=
    fun h2 tk so kp => ⟨.ref s.heap.objs.size, upd H s.heap.objs.size (Txs X.prog X.w s.heap.objs.size (met [] xs)), I.laid (t' := tk) kp (Nat.le_refl _) (txs_ok so), rfl, k _ new⟩
  rcases sq with sq | sq
  · obtain ⟨its, rv, pl, _⟩ := I.list sq
    exact set_list (I.ok.hd hc) pl.isList (by simpa using strsAre_of rv) few done
  · obtain ⟨its, rv, pl, _⟩ := I.tuple sq
    exact set_tuple (I.ok.hd hc) pl (by simpa using strsAre_of rv) few done
/-! ### len of it -/
def rLenTxs (P : Program) (w : World) : List V → Hp → VK → Prop := fun vs H Q => ∃ (a : Addr) (l : List Str), vs = [.ref a] ∧ H a = some (Txs P w a l) ∧ l.length < 1000000 ∧ Q (.int l.length) H
theorem call_lenTxs : CallR X (.builtin "len") (rLenTxs X.prog X.w) := by
  intro pins s σ H vs us Q I r q
  obtain ⟨a, l, rfl, e, few, k⟩ := q
  rw [Vals.ref1 r]
  obtain ⟨o, es, ep, t, ho, ex, dt, _, _, _, fits, n⟩ := txs_at I e
  refine PySem.call_len_set ho ex dt fits (by rw [n]; omega) ⟨.int l.length, H, I.tok _, ⟨_, by rw [n]⟩, k⟩
end

/-! ### {text for ..} -/
/-- the reading: D, the new set -/
def tTxs (P : Program) (w : World) (wi : TI) (g : TG) (tt : TT) (te : TE) (vs : List Nat) : TE := fun σ H Q => wi σ H fun J H1 => ∀ D, H1 D = none → ∃ W : Nat → Nat → Hp → Prop, (∃ m, W 0 m (upd H1 D (Txs P w D []))) ∧ ∀ i m H, W i m H →
  (J.stop i H ∧ Q (.ref D) H) ∨ (J.go i H ∧ ∃ Nx : Hp → Prop, (∀ H', Nx H' → ∃ m', m' < m ∧ W (i + 1) m' H') ∧ ∀ x H', J.yld i H x H' → g x (wipe σ vs) H' fun σ2 H2 => wipe σ2 vs = wipe σ vs ∧ tt σ2 H2 fun b H3 =>
    if b = true then te σ2 H3 fun y H4 => ∃ (z : Str) (l : List Str), y = .str z ∧ H4 D = some (Txs P w D l) ∧ l.length + 1 < scanBound ∧ Nx (upd H4 D (Txs P w D (put1 l z))) else Nx H3)
section
variable {X : Cx} {elt tg iter : Expr} {ifs : List Expr} {scope : Scope} {own : List (PySem.Str × Nat)} {pos pos' : Pos} {wi : TI} {g : TG} {tt : TT} {te : TE}
theorem pe_scT (hc : X.calm = true) (hN : X.N.Nodup) (hi : PI X tg iter wi) (ok : BlkOk X.N X.env.scope scope own)
    (hg : ∀ (u : Shared) (B : Hp) (C : Addr) (cl : List (PySem.Str × Addr)) (fp : List Addr), PG (X.blk u B scope (compEnvC scope cl C X.env) fp) tg g)
    (ht : ∀ (u : Shared) (B : Hp) (C : Addr) (cl : List (PySem.Str × Addr)) (fp : List Addr), PTs (X.blk u B scope (compEnvC scope cl C X.env) fp) ifs tt)
    (he : ∀ (u : Shared) (B : Hp) (C : Addr) (cl : List (PySem.Str × Addr)) (fp : List Addr), PE (X.blk u B scope (compEnvC scope cl C X.env) fp) elt te)
    (hf : ∀ x, foldedSetIterable iter X.env x = pure x := by intro _; rfl) :
    PE X (.SetComp elt [⟨tg, iter, ifs, 0⟩] scope pos) (tTxs X.prog X.w wi g tt te (own.map (·.2))) := by
  refine ⟨fun pins s σ H Q I red => ?_⟩
  rw [PpSet.eval_SetComp]
  have caught : ∀ y ∈ scope.names, y.2 = .free → ∃ c, X.env.cells.lookup y.1 = some c := fun y hy e => (ok.free y hy e).elim (fun k => I.ok.has _ (.inl k)) fun k => I.ok.has _ (.inr k)
  refine wpAny_comprehension_free rfl hf (closure_ok caught) ok.kind (fun y hy e => by rw [ok.uniq y hy, e]) (thn (hi.run pins s σ H _ I red) fun _ s1 r1 => thn r1 fun _ s2 r2 => ?_)
  obtain ⟨it, fp, at_, J, H2, rfl, I2, T, now, apart, rest⟩ := r2
  refine PpSet.newSet_ok (newEnv_comp ?_)
  have noD : H2 s2.heap.objs.size = none := I2.hok.fresh (Nat.le_refl _)
  obtain ⟨W, ⟨m0, w0⟩, turn⟩ := rest _ noD
  generalize eD : s2.heap.objs.size = D at noD w0 turn ⊢
  generalize e3 : ({ s2 with heap := s2.heap.push (bare (!X.w.params.followText "set-order")) } : Shared) = s3
  have g3 : s3.heap = s2.heap.push (bare (!X.w.params.followText "set-order")) := by rw [← e3]
  generalize eH3 : upd H2 D (Txs X.prog X.w D []) = H3 at w0
  have I3 : Inv X pins σ H3 s3 := by
    rw [← e3, ← eH3]
    refine I2.laid (t' := s2.toks) (fun b o q => Heap.get?_push_of_some _ q) (Nat.le_of_eq eD) (txs_ok ?_)
    rw [← eD]
    exact SetOf_congr ((setObjOf_fresh (knd := PySem.strKind X.prog X.w) _).setOf (Heap.get?_push_size _ rfl) (by decide)) (fun _ => rfl) rfl
  have low : ∀ b ∈ fp, b < s2.heap.objs.size := fun b hb => by
    obtain ⟨o, q, _⟩ := T.obj _ _ now b hb; exact Heap.lt_size q
  have fp3 : ∀ b ∈ fp, FpOk X pins H3 b ∧ b < s3.heap.objs.size := fun b hb => by
    refine ⟨⟨?_, (apart b hb).2⟩, by rw [g3, Heap.size_push]; exact Nat.lt_succ_of_lt (low b hb)⟩
    rw [← eH3, upd_ne (by rw [← eD]; exact Nat.ne_of_lt (low b hb))]
    exact (apart b hb).1
  have now3 : at_ 0 s3.heap := T.keep _ _ _ now fun b _ o q => by rw [g3]; exact Heap.get?_push_of_some _ q
  have B4 := block_start I3 ok hN fp3
  generalize eC : compEnvC scope (cellsFrom (s3.heap.objs.size + 1) scope.names (cloFrom X.env.cells scope.names [])) s3.heap.objs.size X.env = ce at B4
  have pG : PG (X.blk s3 H3 scope ce fp) tg g := by rw [← eC]; exact hg _ _ _ _ _
  have pT : PTs (X.blk s3 H3 scope ce fp) ifs tt := by rw [← eC]; exact ht _ _ _ _ _
  have pE : PE (X.blk s3 H3 scope ce fp) elt te := by rw [← eC]; exact he _ _ _ _ _
  have eL : ce.locals = s3.heap.objs.size := by rw [← eC]; rfl
  have fpN : ∀ b ∈ fp, H3 b = none := fun b hb => (fp3 b hb).1.1
  generalize e4 : ({ s3 with heap := pushCells (s3.heap.push { cls := .type "dict", data := .dict #[] }) scope.names } : Shared) = s4 at B4
  have now4 : at_ 0 s4.heap := T.keep _ _ _ now3 fun b _ o q => by rw [← e4]; exact pushCells_keeps _ _ _ _ (Heap.get?_push_of_some _ q)
  show codeAny _ _ (.compStart (.SetComp elt [⟨tg, iter, ifs, 0⟩] scope pos) 0 (.ref it) (.ref D) (compEnvC scope (cellsFrom (s3.heap.objs.size + 1) scope.names (cloFrom X.env.cells scope.names [])) s3.heap.objs.size X.env)) (compPost _ _ _ none _ (.ref D) s3.heap.objs.size) s4
  rw [eC]
  have fpOk : ∀ {σ' : L2.St} {H' : Hp} {s' : Shared}, Inv (X.blk s3 H3 scope ce fp) [] σ' H' s' → (∀ b ∈ fp, H' b = none) → ∀ b ∈ fp, FpOk (X.blk s3 H3 scope ce fp) [] H' b := fun {_ _ _} J' no b hb =>
    ⟨no b hb, (J'.ok.exf b hb).1, J'.ok.exfs b hb, .inl hb, fun x c q => (J'.ok.exf b hb).2 x c q, fun p hp => nomatch (show p ∈ ([] : List (Addr × Obj)) from hp)⟩
  refine PpSet.codeAny_compStart_set ?_ (T.self X.A 0 _ _ _ now4 ?_)
  all_goals
    refine PpSet.compLoopS_any (fun m u => ∃ i G, Inv (X.blk s3 H3 scope ce fp) [] (wipe σ (own.map (·.2))) G u ∧ at_ i u.heap ∧ (∀ b ∈ fp, G b = none) ∧ W i m G) ?_ m0 ⟨0, H3, B4, now4, fpN, w0⟩
    rintro m u ⟨i, G, B5, now5, no5, w5⟩
    rcases turn i m G w5 with ⟨stop, fin⟩ | ⟨go, Nx, less, step⟩
    · refine thnF (T.done (X.blk s3 H3 scope ce fp) rfl rfl rfl hc i [] u _ G (fun _ _ => False) B5 (fpOk B5 no5) now5 stop) fun r s6 ⟨er, B6⟩ => ?_
      subst er
      have I7 : Inv X pins σ G s6 := I3.call' (ch := fp) B6.os B6.base B6.hok B6.bare fun b hb => ⟨(fp3 b hb).1.2.2.2.1, (fp3 b hb).1.2.1, (fp3 b hb).1.2.2.2.2.1, (fp3 b hb).1.2.2.2.2.2⟩
      obtain ⟨mm, ns, _⟩ := B6.loc
      have ns : s6.heap.Ns ce.locals mm := ns
      have noC : G ce.locals = none := B6.free
      rw [eL] at ns noC
      obtain ⟨f0, f1, f2, f3, f4, f5⟩ := I3.fpOk (Nat.le_refl _) noC
      exact ⟨mm, ns, fun h'' sb => ⟨.ref D, G, I7.turned (t' := s6.toks) (fun b o hb q => (sb.2 b hb).trans q) f0 f1 f3 f4 f5, rfl, fin⟩⟩
    · refine thnF (T.item (X.blk s3 H3 scope ce fp) rfl rfl rfl hc i [] u _ G (fun _ _ => False) B5 (fpOk B5 no5) now5 go) fun r s6 ⟨v, er, r6⟩ => ?_
      subst er
      refine thnF r6 fun _ s7 ⟨x, G7, B7, rx, y7, now7, no7⟩ => ?_
      refine thnF (pG.run _ s7 _ G7 x v _ (B7.pinned (fpOk B7 no7) (T.obj _ _ now7)) rx (step x G7 y7)) fun _ s8 ⟨σ8, G8, B8, wp8, q8⟩ => ?_
      refine thnF (pT.run _ s8 σ8 G8 _ B8 q8) fun b s9 ⟨G9, B9, q9⟩ => ?_
      have close : ∀ {u' : Shared} {G' : Hp}, Inv (X.blk s3 H3 scope ce fp) ([] ++ pinsAt fp s7.heap) σ8 G' u' → Nx G' → ∃ m', m' < m ∧ ∃ i' G2, Inv (X.blk s3 H3 scope ce fp) [] (wipe σ (own.map (·.2))) G2 u' ∧ at_ i' u'.heap ∧ (∀ b ∈ fp, G2 b = none) ∧ W i' m' G2 := fun {u' G'} B' nx => by
        obtain ⟨m', lt, w'⟩ := less G' nx
        have held : ∀ b ∈ fp, ∀ o, s7.heap.get? b = some o → u'.heap.get? b = some o ∧ G' b = none := fun b hb o q =>
          ⟨(B'.pin (b, o) (List.mem_append_right _ (List.mem_append_right _ (mem_pinsAt hb q)))).1, (B'.pin (b, o) (List.mem_append_right _ (List.mem_append_right _ (mem_pinsAt hb q)))).2.1⟩
        refine ⟨m', lt, i + 1, G', (B'.unpinned (pins := [])).weak (by rw [← wp8, wipe_length]) (fun j z e => (wipe_some (by rw [wp8]; exact e)).1), T.keep _ _ _ now7 fun b hb o q => (held b hb o q).1, fun b hb => ?_, w'⟩
        obtain ⟨o, q, _⟩ := T.obj _ _ now7 b hb
        exact (held b hb o q).2
      cases b with
      | false =>
        simp only [Bool.false_eq_true, if_false] at q9 ⊢
        exact close B9 q9
      | true =>
        simp only [if_true] at q9 ⊢
        refine thnF (pE.run _ s9 σ8 G9 _ B9 q9) fun z s10 ⟨yv, G10, B10, r10, tx, l0, ey, at10, few, nx⟩ => ?_
        subst ey
        obtain ⟨tk, rfl⟩ := (show ∃ t, z = Value.str tx t from r10)
        exact txs_add (X := X.blk s3 H3 scope ce fp) B10 at10 few fun s11 B11 => close B11 nx
end
end Ssb

/-! Words: a def and its promise in one; data on the heap; loops over dicts. -/
namespace Ssb
open PySem PySem.Spec PyProof.Rows L2
open Evl (Ex Ev EvT EvL EvA EvU)

/-! ### a def of the module, a method of a class, and its promise -/
structure Fn (P : Program) (w : World) (K : PySem.W.Frag) (mg : Str → Option Value) (base : Heap) (nm : Str) (k : Nat) (ps : List Str) (sp : Sp) (f : Addr) (fd : FuncData) : Prop where
  ok : FnOk P w K mg base CX0 k f fd ps sp
  at_ : mg nm = some (.ref f)
  kp : PySem.W.keepIn K (.ref f) = true
  bd : Binds K fd ps []
structure Mt (P : Program) (w : World) (K : PySem.W.Frag) (mg : Str → Option Value) (base : Heap) (C : Addr) (nm : Str) (k : Nat) (ps : List Str) (sp : Sp) (f : Addr) (fd : FuncData) : Prop where
  ok : FnOk P w K mg base CX0 k f fd ps sp
  mt : Meth K C nm f
  bd : Binds K fd ps []
section
variable {X : Cx} {nm : Str} {k j : Nat} {ps : List Str} {sp : Sp} {f : Addr} {fd : FuncData} {p pos : Pos} {e : Expr} {es : List Expr} {t : TA}
theorem pcl (G : Fn X.prog X.w X.K X.mg X.base nm k ps sp f fd) (hr : Room j X.A) (ha : PA X (e :: es) t) (hj : k ≤ j := by first | decide | omega) (hg : Gl X nm := by rfl) (hdb : (nm == ("__debug__" : Str)) = false := by decide)
    (he : starEach (e :: es) X.env = (false, eval e X.env) :: starEach es X.env := by rfl) (hpl : (backTo pos (starEach es X.env)).any (·.1) = false := by rfl) : PE X (.Call (.Name nm p) (e :: es) [] pos) (tCall sp [] E0 t) :=
  pe_call G.ok (hr.mono hj) hg G.at_ G.kp G.bd .nil pass0 ha hdb he hpl
variable {o : Expr} {ta : TE} {apos : Pos} {C : Addr} {pl : Sem Bool}
theorem pmt (ho : PE X o ta) (c : Cls X.K C) (G : Mt X.prog X.w X.K X.mg X.base C nm k ps sp f fd) (hr : Room j X.A) (ha : PA X (e :: es) t) (hj : k ≤ j := by first | decide | omega)
    (he : starEach (e :: es) X.env = (false, eval e X.env) :: starEach es X.env := by rfl) (hpl : (backTo pos (starEach es X.env)).any (·.1) = false := by rfl)
    (ht : eval (.Call (.Attribute o nm apos) (e :: es) [] pos) X.env = (do
      let ov ← eval o X.env
      standAt apos.atName
      let (f, first) ← holding [ov] (getMethod ov nm pl)
      callWith pos f first (backTo pos (starEach (e :: es) X.env)) (backToKw pos (keywordEach [] X.env))) := by rfl) : PE X (.Call (.Attribute o nm apos) (e :: es) [] pos) (tMeth C nm sp [] E0 ta t) :=
  pe_meth ho c G.mt G.ok (hr.mono hj) G.bd .nil pass0 ha he hpl ht
theorem pmt0 (ho : PE X o ta) (c : Cls X.K C) (G : Mt X.prog X.w X.K X.mg X.base C nm k ps sp f fd) (hr : Room j X.A) (hj : k ≤ j := by first | decide | omega)
    (ht : eval (.Call (.Attribute o nm apos) [] [] pos) X.env = (do
      let ov ← eval o X.env
      standAt apos.atName
      let (f, first) ← holding [ov] (getMethod ov nm pl)
      callWith pos f first (backTo pos (starEach [] X.env)) (backToKw pos (keywordEach [] X.env))) := by rfl) : PE X (.Call (.Attribute o nm apos) [] [] pos) (tMeth C nm sp [] E0 ta tNil) :=
  pe_meth0 ho c G.mt G.ok (hr.mono hj) G.bd .nil pass0 ht
/-- a test that is never asked -/
def tNeverT : TT := fun _ _ _ => False
theorem pt_unseen : PT X e tNeverT := ⟨fun _ _ _ _ _ _ h => h.elim⟩
def tNeverE : TE := fun _ _ _ => False
theorem pe_unseen : PE X e tNeverE := ⟨fun _ _ _ _ _ _ h => h.elim⟩
end

/-! ### data, as they stand on the heap: lists and dicts at places of S, a dict never within itself -/
inductive D where
  | non | bl (b : Bool) | int (i : Int) | str (s : Str) | lst (l : List D) | tup (l : List D) | dic (l : List (Str × D))
def Rep (H : Hp) : Nat → (Addr → Prop) → D → V → Prop
  | 0, _, _, _ => False
  | _ + 1, _, .non, v => v = .non
  | _ + 1, _, .bl b, v => v = .bl b
  | _ + 1, _, .int i, v => v = .int i
  | _ + 1, _, .str s, v => v = .str s
  | n + 1, S, .lst l, v => ∃ a xs, v = .ref a ∧ S a ∧ H a = some (.lst xs) ∧ l.length ≤ 100000 ∧ Paired (fun d x => Rep H n S d x) l xs
  | n + 1, S, .tup l, v => ∃ a xs, v = .ref a ∧ H a = some (.tup xs) ∧ l.length ≤ 100000 ∧ Paired (fun d x => Rep H n S d x) l xs
  | n + 1, S, .dic l, v => ∃ a es, v = .ref a ∧ S a ∧ H a = some (.dK es) ∧ l.length ≤ 100000 ∧ Paired (fun (q : Str × D) (e : Key × V) => e.1 = Sum.inr q.1 ∧ Rep H n (fun b => S b ∧ b ≠ a) q.2 e.2) l es
theorem pair_imp {α β : Type} {F G : α → β → Prop} : ∀ {l : List α} {m : List β}, Paired F l m → (∀ a b, F a b → G a b) → Paired G l m
  | _, _, .nil, _ => .nil
  | _, _, .cons h t, k => .cons (k _ _ h) (pair_imp t k)
theorem pair_len {α β : Type} {F : α → β → Prop} : ∀ {l : List α} {m : List β}, Paired F l m → l.length = m.length
  | _, _, .nil => rfl
  | _, _, .cons _ t => congrArg (· + 1) (pair_len t)
theorem pair_at {α β : Type} {F : α → β → Prop} : ∀ {l : List α} {m : List β} {i : Nat} {a : α}, Paired F l m → l[i]? = some a → ∃ b, m[i]? = some b ∧ F a b
  | _, _, _, _, .nil, e => by simp at e
  | _, _, 0, _, .cons h _, e => by
    simp at e; subst e; exact ⟨_, rfl, h⟩
  | _, _, i + 1, _, .cons _ t, e => by
    obtain ⟨b, h1, h2⟩ := pair_at (i := i) t (by simpa using e)
    exact ⟨b, by simpa using h1, h2⟩
theorem pair_back {α β : Type} {F : α → β → Prop} : ∀ {l : List α} {m : List β} {i : Nat} {b : β}, Paired F l m → m[i]? = some b → ∃ a, l[i]? = some a ∧ F a b
  | _, _, _, _, .nil, e => by simp at e
  | _, _, 0, _, .cons h _, e => by
    simp at e; subst e; exact ⟨_, rfl, h⟩
  | _, _, i + 1, _, .cons _ t, e => by
    obtain ⟨b, h1, h2⟩ := pair_back (i := i) t (by simpa using e)
    exact ⟨b, by simpa using h1, h2⟩
theorem pair_app {α β : Type} {F : α → β → Prop} : ∀ {l l' : List α} {m m' : List β}, Paired F l m → Paired F l' m' → Paired F (l ++ l') (m ++ m')
  | _, _, _, _, .nil, t => t
  | _, _, _, _, .cons h r, t => .cons h (pair_app r t)
theorem pair_snoc {α β : Type} {F : α → β → Prop} {l : List α} {m : List β} {a : α} {b : β} (p : Paired F l m) (h : F a b) : Paired F (l ++ [a]) (m ++ [b]) := pair_app p (.cons h .nil)
/-- what is told at the places of S (and of tuples) is all that counts -/
theorem rep_to {H H' : Hp} : ∀ {n : Nat} {S : Addr → Prop} {d : D} {v : V}, (∀ b o, H b = some o → (S b ∨ ∃ xs, o = .tup xs) → H' b = some o) → Rep H n S d v → Rep H' n S d v
  | 0, _, _, _, _, h => h.elim
  | n + 1, S, d, v, k, h => by
    cases d with
    | non => exact h
    | bl b => exact h
    | int i => exact h
    | str s => exact h
    | lst l =>
      obtain ⟨a, xs, e, s, ha, hl, p⟩ := h
      exact ⟨a, xs, e, s, k a _ ha (.inl s), hl, pair_imp p fun d x r => rep_to k r⟩
    | tup l =>
      obtain ⟨a, xs, e, ha, hl, p⟩ := h
      exact ⟨a, xs, e, k a _ ha (.inr ⟨xs, rfl⟩), hl, pair_imp p fun d x r => rep_to k r⟩
    | dic l =>
      obtain ⟨a, es, e, s, ha, hl, p⟩ := h
      exact ⟨a, es, e, s, k a _ ha (.inl s), hl, pair_imp p fun q x r => ⟨r.1, rep_to (fun b o hb z => k b o hb (z.imp (·.1) id)) r.2⟩⟩
theorem rep_ex {H H' : Hp} {n : Nat} {S : Addr → Prop} {d : D} {v : V} (e : Ex H H') (h : Rep H n S d v) : Rep H' n S d v := rep_to (fun b o hb _ => e b o hb) h
theorem rep_S {H : Hp} : ∀ {n : Nat} {S S' : Addr → Prop} {d : D} {v : V}, (∀ b, S b → S' b) → Rep H n S d v → Rep H n S' d v
  | 0, _, _, _, _, _, h => h.elim
  | n + 1, S, S', d, v, k, h => by
    cases d with
    | non => exact h
    | bl b => exact h
    | int i => exact h
    | str s => exact h
    | lst l =>
      obtain ⟨a, xs, e, s, ha, hl, p⟩ := h
      exact ⟨a, xs, e, k a s, ha, hl, pair_imp p fun d x r => rep_S k r⟩
    | tup l =>
      obtain ⟨a, xs, e, ha, hl, p⟩ := h
      exact ⟨a, xs, e, ha, hl, pair_imp p fun d x r => rep_S k r⟩
    | dic l =>
      obtain ⟨a, es, e, s, ha, hl, p⟩ := h
      exact ⟨a, es, e, k a s, ha, hl, pair_imp p fun q x r => ⟨r.1, rep_S (fun b z => ⟨k b z.1, z.2⟩) r.2⟩⟩
theorem rep_up {H : Hp} : ∀ {n : Nat} {S : Addr → Prop} {d : D} {v : V}, Rep H n S d v → Rep H (n + 1) S d v
  | 0, _, _, _, h => h.elim
  | n + 1, S, d, v, h => by
    cases d with
    | non => exact h
    | bl b => exact h
    | int i => exact h
    | str s => exact h
    | lst l =>
      obtain ⟨a, xs, e, s, ha, hl, p⟩ := h
      exact ⟨a, xs, e, s, ha, hl, pair_imp p fun d x r => rep_up r⟩
    | tup l =>
      obtain ⟨a, xs, e, ha, hl, p⟩ := h
      exact ⟨a, xs, e, ha, hl, pair_imp p fun d x r => rep_up r⟩
    | dic l =>
      obtain ⟨a, es, e, s, ha, hl, p⟩ := h
      exact ⟨a, es, e, s, ha, hl, pair_imp p fun q x r => ⟨r.1, rep_up r.2⟩⟩
/-- behind a lock of a, which S does not hold -/
theorem rep_lock {H : Hp} {n : Nat} {S : Addr → Prop} {d : D} {v : V} {a : Addr} {es : List (Key × V)} {u : HO} (ha : H a = some (.dK es)) (hS : ∀ b, S b → b ≠ a) (h : Rep H n S d v) : Rep (upd H a u) n S d v :=
  rep_to (fun b o hb z => by
    have ne : b ≠ a := by
      rcases z with z | ⟨xs, rfl⟩
      · exact hS b z
      · intro e; rw [e, ha] at hb; cases hb
    rw [upd_ne ne]; exact hb) h

/-! ### what a dict tells -/
theorem lk_cons {α : Type} (k j : Str) (d : α) (l : List (Str × α)) : List.lookup k ((j, d) :: l) = if k = j then some d else List.lookup k l := by
  by_cases h : k = j
  · subst h; simp [List.lookup]
  · have e : (k == j) = false := by simpa using h
    rw [if_neg h]; simp [List.lookup, e]
theorem vV_cons (k : Key) (e : Key × V) (l : List (Key × V)) : valV (e :: l) k = if e.1 = k then some e.2 else valV l k := by
  unfold valV
  rw [List.find?_cons]
  by_cases h : e.1 = k
  · rw [decide_eq_true h, if_pos h]; rfl
  · rw [decide_eq_false h, if_neg h]
theorem pair_lk {F : D → V → Prop} : ∀ {l : List (Str × D)} {es : List (Key × V)}, Paired (fun (q : Str × D) (e : Key × V) => e.1 = Sum.inr q.1 ∧ F q.2 e.2) l es → ∀ {k : Str} {d : D}, l.lookup k = some d → ∃ v, valV es (Sum.inr k : Key) = some v ∧ F d v
  | _, _, .nil, k, d, h => by simp [List.lookup] at h
  | (j, d0) :: l, e :: es, .cons h t, k, d, hk => by
    rw [lk_cons] at hk
    rw [vV_cons]
    by_cases c : k = j
    · rw [if_pos c] at hk
      cases hk
      exact ⟨e.2, by rw [if_pos (by rw [h.1, c])], h.2⟩
    · rw [if_neg c] at hk
      obtain ⟨v, h1, h2⟩ := pair_lk t hk
      exact ⟨v, by rw [if_neg (by rw [h.1]; intro z; exact c (Sum.inr.inj z).symm)]; exact h1, h2⟩
theorem pair_no {F : D → V → Prop} : ∀ {l : List (Str × D)} {es : List (Key × V)}, Paired (fun (q : Str × D) (e : Key × V) => e.1 = Sum.inr q.1 ∧ F q.2 e.2) l es → ∀ {k : Str}, l.lookup k = none → valV es (Sum.inr k : Key) = none
  | _, _, .nil, k, h => rfl
  | (j, d0) :: l, e :: es, .cons h t, k, hk => by
    rw [lk_cons] at hk
    rw [vV_cons]
    by_cases c : k = j
    · rw [if_pos c] at hk; cases hk
    · rw [if_neg c] at hk
      rw [if_neg (by rw [h.1]; intro z; exact c (Sum.inr.inj z).symm)]
      exact pair_no t hk

/-! ### expressions that only make objects -/
/-- te gives a v of which P holds (P stays when objects are made) -/
def EvP (te : TE) (σ : L2.St) (H : Hp) (P : V → Hp → Prop) : Prop := ∀ H1, Ex H H1 → ∀ Q : VK, (∀ v H2, Ex H1 H2 → P v H2 → Q v H2) → te σ H1 Q
section
variable {K : PySem.W.Frag} {σ : L2.St} {H H' : Hp} {te ta tb tc : TE} {v x y z : V} {t u : TT}
theorem Ev.p {P : V → Hp → Prop} (h : Ev te σ H v) (hp : ∀ H1, Ex H H1 → P v H1) : EvP te σ H P := fun H1 e Q q => h H1 e Q fun H2 e2 => q v H2 e2 (hp H2 (e.trans e2))
theorem ev_chain {r r' : R2} {b1 b2 : Bool} (ha : Ev ta σ H x) (hb : Ev tb σ H y) (hc : Ev tc σ H z) (h1 : Evl.RV r x y H (.bl b1)) (h2 : Evl.RV r' y z H (.bl b2)) : Ev (tChain r r' ta tb tc) σ H (.bl (b1 && b2)) := fun H1 e Q q =>
  ha H1 e _ fun H2 e2 => hb H2 (e.trans e2) _ fun H3 e3 => h1 H3 ((e.trans e2).trans e3) _ fun H4 e4 => ⟨b1, rfl, by
    cases b1 with
    | true => exact hc H4 (((e.trans e2).trans e3).trans e4) _ fun H5 e5 => h2 H5 ((((e.trans e2).trans e3).trans e4).trans e5) Q fun H6 e6 => q H6 ((((e2.trans e3).trans e4).trans e5).trans e6)
    | false => exact q H4 ((e2.trans e3).trans e4)⟩
theorem ev_isi {n : String} {ty : Value} {b : Bool} (h : Ev te σ H x) (hty : ∀ H1, Ex H H1 → TyX K H1 x ty) (hk : PySem.W.kitOne K ty (.type n) = some b) : Ev (tCB (rIsi K) (tCons te (tCons (tC (.ty n)) tNil))) σ H (.bl b) := fun H1 e Q q =>
  h H1 e _ fun H2 e2 => ⟨x, .ty n, ty, .type n, b, rfl, .ty n, hty H2 (e.trans e2), hk, q H2 e2⟩
theorem ev_isi2 {n m : String} {ty : Value} {b : Bool} (h : Ev te σ H x) (hty : ∀ H1, Ex H H1 → TyX K H1 x ty) (hk : PySem.W.kitAny K ty [.type n, .type m] = some b) :
    Ev (tCB (rIsiT K) (tCons te (tCons (tTup (tCons (tC (.ty n)) (tCons (tC (.ty m)) tNil))) tNil))) σ H (.bl b) := fun H1 e Q q =>
  h H1 e _ fun H2 e2 => ⟨(by show 2 ≤ sizeLine; decide), fun p hp => ⟨x, p, [.ty n, .ty m], ty, [.type n, .type m], b, rfl, upd_same, .cons (.ty n) (.cons (.ty m) .nil), hty _ ((e.trans e2).trans (Ex.new hp)), hk, q _ (e2.trans (Ex.new hp))⟩⟩
theorem ev_all {bs : List Bool} (h : EvL te σ H (bs.map V.bl)) : Ev (tCB (rAll K) (tCons te tNil)) σ H (.bl (bs.all id)) := fun H1 e Q q =>
  h H1 e _ fun p H2 _ e2 hp => ⟨p, bs, rfl, Evl.sq_of hp, q H2 e2⟩
theorem ev_lenS {s : Str} (h : Ev te σ H (.str s)) (hs : s.length ≤ 100000) : Ev (tCB (fun xs H Q => ∃ x n, xs = [x] ∧ LenV K x H n ∧ Q (.int n) H) (tCons te tNil)) σ H (.int (s.length : Int)) := fun H1 e Q q =>
  h H1 e _ fun H2 e2 => ⟨.str s, s.length, rfl, ⟨Evl.sz_of hs, rfl⟩, q H2 e2⟩
theorem ev_lenL {a : Addr} {xs : List V} (h : Ev te σ H (.ref a)) (hx : SqL K H a xs ∨ SqT K H a xs) : Ev (tCB (fun xs H Q => ∃ x n, xs = [x] ∧ LenV K x H n ∧ Q (.int n) H) (tCons te tNil)) σ H (.int (xs.length : Int)) := fun H1 e Q q =>
  h H1 e _ fun H2 e2 => ⟨.ref a, xs.length, rfl, hx.imp (fun z => ⟨xs, Evl.ex_l (e.trans e2) z, rfl⟩) fun z => ⟨xs, Evl.ex_t (e.trans e2) z, rfl⟩, q H2 e2⟩
theorem ev_lenK {a : Addr} {es : List (Key × V)} (h : Ev te σ H (.ref a)) (hx : H a = some (.dK es)) : Ev (tCB (fun xs H Q => ∃ a kvs, xs = [V.ref a] ∧ H a = some (.dK kvs) ∧ Q (.int kvs.length) H) (tCons te tNil)) σ H (.int (es.length : Int)) := fun H1 e Q q =>
  h H1 e _ fun H2 e2 => ⟨a, es, rfl, (e.trans e2) a _ hx, q H2 e2⟩
theorem ev_lenSet {P : Program} {w : World} {a : Addr} {l : List Str} (h : Ev te σ H (.ref a)) (hx : SqL K H a (l.map V.str) ∨ SqT K H a (l.map V.str)) (few : l.length ≤ 1000) :
    Ev (tCB (rLenTxs P w) (tCons (tCB (rSetS K P w) (tCons te tNil)) tNil)) σ H (.int ((met [] l).length : Int)) := fun H1 e Q q =>
  h H1 e _ fun H2 e2 => ⟨a, l, rfl, hx.imp (Evl.ex_l (e.trans e2)) (Evl.ex_t (e.trans e2)), Nat.lt_of_le_of_lt (Nat.add_le_add_right few 1) (by decide), fun p hp => ⟨p, met [] l, rfl, upd_same, by have := met_len l []; simp only [List.length_nil] at this; omega, q _ (e2.trans (Ex.new hp))⟩⟩
theorem ev_get {a : Addr} {es : List (Key × V)} {k : Str} (h : Ev ta σ H (.ref a)) (hk : Ev tb σ H (.str k)) (hx : Rd H a (.dK es)) (hv : valV es (Sum.inr k : Key) = some v) : Ev (tDGet ta tb) σ H v := fun H1 e Q q =>
  h H1 e _ fun H2 e2 => hk H2 (e.trans e2) _ fun H3 e3 => ⟨a, v, rfl, .inl ⟨es, Sum.inr k, Evl.ex_rd ((e.trans e2).trans e3) hx, rfl, hv.symm⟩, q H3 (e2.trans e3)⟩
theorem ev_din {a : Addr} {es : List (Key × V)} {k : Str} (hk : Ev tb σ H (.str k)) (h : Ev ta σ H (.ref a)) (hx : Rd H a (.dK es)) : Ev (tDIn tb ta) σ H (.bl (valV es (Sum.inr k : Key)).isSome) := fun H1 e Q q =>
  hk H1 e _ fun H2 e2 => h H2 (e.trans e2) _ fun H3 e3 => ⟨a, valV es (Sum.inr k), rfl, .inl ⟨es, Sum.inr k, Evl.ex_rd ((e.trans e2).trans e3) hx, rfl, rfl⟩, q H3 (e2.trans e3)⟩
/-- a call whose answer is a plain value -/
theorem ev_fn {sp : Sp} {vs : List V} {ta : TA} (h : EvA ta σ H vs) (hs : ∀ H1, Ex H H1 → ∀ Q : VK, (∀ H2, Ex H1 H2 → Q z H2) → sp vs H1 Q E0) : Ev (tCall sp [] E0 ta) σ H z := fun H1 e Q q =>
  h H1 e _ fun H2 e2 => by
    show sp (vs ++ []) H2 Q E0
    rw [List.append_nil]
    exact hs H2 (e.trans e2) Q fun H3 e3 => q H3 (e2.trans e3)
/-- an argument list whose first item is a new list -/
theorem ev_fnL {sp : Sp} {xs : List V} (h : Ev te σ H x) (hl : EvL tb σ H xs) (hs : ∀ p H1, Ex H H1 → H1 p = some (.lst xs) → ∀ Q : VK, (∀ H2, Ex H1 H2 → Q z H2) → sp [x, .ref p] H1 Q E0) : Ev (tCall sp [] E0 (tCons te (tCons tb tNil))) σ H z := fun H1 e Q q =>
  h H1 e _ fun H2 e2 => hl H2 (e.trans e2) _ fun p H3 _ e3 hp => hs p H3 ((e.trans e2).trans e3) hp Q fun H4 e4 => q H4 ((e2.trans e3).trans e4)
end

/-! ### comprehensions that keep every item -/
section
variable {K : PySem.W.Frag} {σ : L2.St} {H : Hp} {te tl : TE} {vs : List Nat} {J : It} {n : Nat} {G : Hp → Prop} {g : TG}
/-- what the new list holds behind i turns, in a heap that has only grown since H0 -/
def Cm (H0 : Hp) (f : Nat → V) (Dl i : Nat) (H' : Hp) : Prop := H0 Dl = none ∧ Ex H0 H' ∧ H' Dl = some (.lst ((List.range i).map f))
theorem cm_next {H0 H' : Hp} {f : Nat → V} {Dl i : Nat} {σ2 : L2.St} (p : Cm H0 f Dl i H') (hi : i < 100000) (he : Ev te σ2 H0 (f i)) :
    te σ2 H' fun y H4 => ∃ acc, H4 Dl = some (.lst acc) ∧ acc.length < sizeLine ∧ Cm H0 f Dl (i + 1) (upd H4 Dl (.lst (acc ++ [y]))) := by
  obtain ⟨p1, p2, p3⟩ := p
  refine he H' p2 _ fun H4 e4 => ⟨_, e4 Dl _ p3, Evl.sz_lt (by simpa using hi), p1, Ex.mut (p2.trans e4) p1, ?_⟩
  rw [upd_same, List.range_succ, List.map_append]
  rfl
/-- over anything that hands on the items xs and leaves the heap as it is -/
theorem el_walk {xs : List V} {f : Nat → V} (w : Walk J xs.length G (YAt xs)) (hz : xs.length ≤ 100000) {H1 : Hp} (hG : ∀ H', Ex H1 H' → G H') {j : Nat} (hw : ∀ x, wipe ((wipe σ vs).set j (some x)) vs = wipe σ vs)
    (he : ∀ (i : Nat) (x : V), xs[i]? = some x → ∀ H2, Ex H1 H2 → Ev te ((wipe σ vs).set j (some x)) H2 (f i)) {Q : VK} (q : ∀ p H2, H1 p = none → Ex H1 H2 → H2 p = some (.lst ((List.range xs.length).map f)) → Q (.ref p) H2) (Dl : Addr) (hD : H1 Dl = none) :
    ∃ W : Nat → Nat → Hp → Prop, (∃ m, W 0 m (upd H1 Dl (.lst []))) ∧ ∀ i m H, W i m H → (J.stop i H ∧ Q (.ref Dl) H) ∨ (J.go i H ∧ ∃ Nx : Hp → Prop, (∀ H', Nx H' → ∃ m', m' < m ∧ W (i + 1) m' H') ∧ ∀ x H', J.yld i H x H' → gName j x (wipe σ vs) H' fun σ2 H2 =>
      wipe σ2 vs = wipe σ vs ∧ tYes σ2 H2 fun b H3 => if b = true then te σ2 H3 fun y H4 => ∃ acc, H4 Dl = some (.lst acc) ∧ acc.length < sizeLine ∧ Nx (upd H4 Dl (.lst (acc ++ [y]))) else Nx H3) := by
  refine lc_it (g := gName j) (tt := tYes) w (Cm H1 f Dl) ⟨hD, Ex.new hD, upd_same⟩ (fun i H' _ p => hG H' p.2.1) (fun i x H2 H' hi p y => ?_) fun H' p => q Dl H' hD p.2.1 p.2.2
  obtain ⟨rfl, hx⟩ := y
  exact ⟨hw x, cm_next p (by omega) (he i x hx H1 (Ex.refl _))⟩
end
end Ssb

/-! Comprehensions and loops over texts, lists, tuples, dicts (under their lock). -/
namespace Ssb
open PySem PySem.Spec PyProof.Rows L2
open Evl (Ex Ev EvT EvL EvA EvU)
section
variable {K : PySem.W.Frag} {σ : L2.St} {H : Hp} {te tl ta td tb : TE} {vs : List Nat} {j : Nat} {f : Nat → V}
/-- len, list(..), tuple(..), truth: the readings by their names -/
def rLenA (K : PySem.W.Frag) : List V → Hp → VK → Prop := fun xs H Q => ∃ x n, xs = [x] ∧ LenV K x H n ∧ Q (V.int n) H
def rListA (K : PySem.W.Frag) : List V → Hp → VK → Prop := fun xs H Q => ∃ p ys, xs = [V.ref p] ∧ (SqL K H p ys ∨ SqT K H p ys) ∧ ∀ l, H l = none → Q (.ref l) (upd H l (.lst ys))
def rTupA (K : PySem.W.Frag) : List V → Hp → VK → Prop := fun xs H Q => ∃ p ys, xs = [V.ref p] ∧ ((SqL K H p ys ∧ ∀ l, H l = none → Q (.ref l) (upd H l (.tup ys))) ∨ (SqT K H p ys ∧ Q (.ref p) H))
def tTruA (K : PySem.W.Frag) (ta : TE) : TT := fun σ H Q => ta σ H fun x H' => ∃ k, TruV K x H' k ∧ Q k H'
theorem ev_allT {n : Nat} (h : EvL te σ H ((List.range n).map fun _ => V.bl true)) : Ev (tCB (rAll K) (tCons te tNil)) σ H (.bl true) := by
  have e : ((List.range n).map fun _ => V.bl true) = ((List.range n).map fun _ => true).map V.bl := by rw [List.map_map]; rfl
  rw [e] at h
  refine Evl.ev_is (ev_all h) ?_
  congr 1
  rw [List.all_eq_true]
  intro b hb
  obtain ⟨_, _, rfl⟩ := List.mem_map.mp hb
  rfl
theorem el_lcS {s : Str} (h : Ev ta σ H (.str s)) (hz : s.length ≤ 100000) (hw : ∀ x, wipe ((wipe σ vs).set j (some x)) vs = wipe σ vs)
    (he : ∀ (i : Nat) (c : Nat), s.cps[i]? = some c → ∀ H2, Ex H H2 → Ev te ((wipe σ vs).set j (some (.str ⟨#[c]⟩))) H2 (f i)) : EvL (tLc (iStr ta) (gName j) tYes te vs) σ H ((List.range s.length).map f) := fun H1 e Q q =>
  h H1 e _ fun H2 e2 => ⟨s, rfl, fun Dl hD => by
    have w : Walk (Its s) (s.cps.toList.map fun c => V.str ⟨#[c]⟩).length (fun _ => True) (YAt (s.cps.toList.map fun c => V.str ⟨#[c]⟩)) := by
      have l : (s.cps.toList.map fun c => V.str ⟨#[c]⟩).length = s.cps.size := by simp
      rw [l]
      refine walk_str.mono (fun _ z => z) fun i H v H' hi _ y => ?_
      obtain ⟨e, c, hc, rfl⟩ := y
      exact ⟨e, by simp [hc]⟩
    refine el_walk (f := f) w (by rw [List.length_map]; exact hz) (fun _ _ => trivial) hw (fun i x hx H3 e3 => ?_) (fun p H3 hp e3 hl => ?_) Dl hD
    · rw [List.getElem?_map] at hx
      cases hc : s.cps.toList[i]? with
      | none => rw [hc] at hx; cases hx
      | some c =>
        rw [hc] at hx
        cases hx
        exact he i c (by simpa using hc) H3 ((e.trans e2).trans e3)
    · refine q p H3 (Evl.fresh_back e2 hp) (e2.trans e3) ?_
      rw [hl]
      simp [Str.length]⟩
theorem el_lcA {a : Addr} {xs : List V} (h : Ev tl σ H (.ref a)) (hx : SqL K H a xs) (hz : xs.length ≤ 100000) (hw : ∀ x, wipe ((wipe σ vs).set j (some x)) vs = wipe σ vs)
    (he : ∀ (i : Nat) (x : V), xs[i]? = some x → ∀ H2, Ex H H2 → Ev te ((wipe σ vs).set j (some x)) H2 (f i)) : EvL (tLc (iList K tl) (gName j) tYes te vs) σ H ((List.range xs.length).map f) := fun H1 e Q q =>
  h H1 e _ fun H2 e2 => ⟨a, rfl, ⟨xs, Evl.ex_l (e.trans e2) hx⟩, fun Dl hD =>
    el_walk (f := f) walk_list hz (fun H3 e3 => Evl.ex_l ((e.trans e2).trans e3) hx) hw (fun i x h3 H3 e3 => he i x h3 H3 ((e.trans e2).trans e3)) (fun p H3 hp e3 hl => q p H3 (Evl.fresh_back e2 hp) (e2.trans e3) hl) Dl hD⟩
theorem el_lcT {a : Addr} {xs : List V} (h : Ev tl σ H (.ref a)) (hx : SqT K H a xs) (hz : xs.length ≤ 100000) (hw : ∀ x, wipe ((wipe σ vs).set j (some x)) vs = wipe σ vs)
    (he : ∀ (i : Nat) (x : V), xs[i]? = some x → ∀ H2, Ex H H2 → Ev te ((wipe σ vs).set j (some x)) H2 (f i)) : EvL (tLc (iTup K tl) (gName j) tYes te vs) σ H ((List.range xs.length).map f) := fun H1 e Q q =>
  h H1 e _ fun H2 e2 => ⟨a, rfl, ⟨xs, Evl.ex_t (e.trans e2) hx⟩, fun Dl hD =>
    el_walk (f := f) walk_tup hz (fun H3 e3 => Evl.ex_t ((e.trans e2).trans e3) hx) hw (fun i x h3 H3 e3 => he i x h3 H3 ((e.trans e2).trans e3)) (fun p H3 hp e3 hl => q p H3 (Evl.fresh_back e2 hp) (e2.trans e3) hl) Dl hD⟩
/-! ### under a lock -/
theorem unlock {H H' : Hp} {d : Addr} {u u' : HO} (hd : H d = some u) (e : Ex (upd H d u') H') : Ex H (upd H' d u) := fun b o hb => by
  by_cases h : b = d
  · subst h; rw [upd_same]; rw [hd] at hb; exact hb
  · rw [upd_ne h]; exact e b o (by rw [upd_ne h]; exact hb)
theorem lock_keys {d : Addr} {o : Obj} {es : List (Key × V)} : Walk (Itk d o es) (es.map fun e => kV e.1).length (fun H => H d = some (.frz o (.dK es))) (YAt (es.map fun e => kV e.1)) := by
  rw [List.length_map]
  refine walk_keys.mono (fun _ z => z) fun i H x H' _ _ y => ?_
  obtain ⟨e, k, v, hk, rfl⟩ := y
  exact ⟨e, by rw [List.getElem?_map, hk]; rfl⟩
theorem lock_vals {d : Addr} {o : Obj} {es : List (Key × V)} : Walk (Itd d o es) (es.map fun e => e.2).length (fun H => H d = some (.frz o (.dK es))) (YAt (es.map fun e => e.2)) := by
  rw [List.length_map]
  refine walk_values.mono (fun _ z => z) fun i H x H' _ _ y => ?_
  obtain ⟨e, k, hk⟩ := y
  exact ⟨e, by rw [List.getElem?_map, hk]; rfl⟩
theorem el_lcK {d : Addr} {es : List (Key × V)} (h : ∀ H1, Ev td σ H1 (.ref d)) (hd : H d = some (.dK es)) (hz : es.length ≤ 100000) (hw : ∀ x, wipe ((wipe σ vs).set j (some x)) vs = wipe σ vs)
    (he : ∀ (i : Nat) (k : Key) (v : V), es[i]? = some (k, v) → ∀ od H1 H2, Ex H H1 → Ex (upd H1 d (.frz od (.dK es))) H2 → Ev te ((wipe σ vs).set j (some (kV k))) H2 (f i)) : EvL (tLockE (tLc (iKeys td) (gName j) tYes te vs)) σ H ((List.range es.length).map f) := fun H1 e Q q => by
  have hd1 := e d _ hd
  refine ⟨d, .dK es, hd1, trivial, fun od => h _ _ (Ex.refl _) _ fun H2 e2 => ⟨d, od, rfl, .inl ⟨es, e2 d _ upd_same, fun Dl hD => ?_⟩⟩⟩
  refine el_walk (f := f) (Q := fun v H' => H' d = some (.frz od (.dK es)) ∧ Q v (upd H' d (.dK es))) lock_keys (by simpa using hz) (fun H3 e3 => e3 d _ (e2 d _ upd_same)) hw (fun i x hx H3 e3 => ?_) (fun p H3 hp e3 hl => ⟨e3 d _ (e2 d _ upd_same), ?_⟩) Dl hD
  · rw [List.getElem?_map] at hx
    cases hc : es[i]? with
    | none => rw [hc] at hx; cases hx
    | some c =>
      rw [hc] at hx
      cases hx
      exact he i c.1 c.2 hc od H1 H3 e (e2.trans e3)
  · have np : p ≠ d := fun z => by
      have := e2 d _ upd_same
      rw [z, this] at hp; cases hp
    refine q p _ ?_ (unlock hd1 (e2.trans e3)) ?_
    · have := Evl.fresh_back e2 hp
      rw [upd_ne np] at this; exact this
    · rw [upd_ne np, hl, List.length_map]
theorem el_lcV {d : Addr} {es : List (Key × V)} (h : ∀ H1, Ex H H1 → ∀ od, Ev td σ (upd H1 d (.frz od (.dK es))) (.ref d)) (hd : H d = some (.dK es)) (hz : es.length ≤ 100000) (hw : ∀ x, wipe ((wipe σ vs).set j (some x)) vs = wipe σ vs)
    (he : ∀ (i : Nat) (k : Key) (v : V), es[i]? = some (k, v) → ∀ od H1 H2, Ex H H1 → Ex (upd H1 d (.frz od (.dK es))) H2 → Ev te ((wipe σ vs).set j (some v)) H2 (f i)) : EvL (tLockE (tLc (iVals td) (gName j) tYes te vs)) σ H ((List.range es.length).map f) := fun H1 e Q q => by
  have hd1 := e d _ hd
  refine ⟨d, .dK es, hd1, trivial, fun od => h H1 e od _ (Ex.refl _) _ fun H2 e2 => ⟨d, od, es, rfl, e2 d _ upd_same, fun Dl hD => ?_⟩⟩
  refine el_walk (f := f) (Q := fun v H' => H' d = some (.frz od (.dK es)) ∧ Q v (upd H' d (.dK es))) lock_vals (by simpa using hz) (fun H3 e3 => e3 d _ (e2 d _ upd_same)) hw (fun i x hx H3 e3 => ?_) (fun p H3 hp e3 hl => ⟨e3 d _ (e2 d _ upd_same), ?_⟩) Dl hD
  · rw [List.getElem?_map] at hx
    cases hc : es[i]? with
    | none => rw [hc] at hx; cases hx
    | some c =>
      rw [hc] at hx
      cases hx
      exact he i c.1 c.2 hc od H1 H3 e (e2.trans e3)
  · have np : p ≠ d := fun z => by
      have := e2 d _ upd_same
      rw [z, this] at hp; cases hp
    refine q p _ ?_ (unlock hd1 (e2.trans e3)) ?_
    · have := Evl.fresh_back e2 hp
      rw [upd_ne np] at this; exact this
    · rw [upd_ne np, hl, List.length_map]
/-! ### a for under a lock: Pv by the lock's object, the turn, the slots, the heap -/
variable {D : Ends} {ts : TS} {g : TG}
def shut (D : Ends) (d : Addr) (u : HO) (od : Obj) (N : L2.St → Hp → Prop) : Ends :=
  { nx := N, ct := N, bk := fun σ' H' => H' d = some (.frz od u) ∧ D.nx σ' (upd H' d u), rt := fun v H' => H' d = some (.frz od u) ∧ D.rt v (upd H' d u) }
theorem for_lock {d : Addr} {es : List (Key × V)} {J : Obj → It} {ti : TI} {xs : Nat → Option V} (hd : H d = some (.dK es)) (hi : ∀ od R, R (J od) (upd H d (.frz od (.dK es))) → ti σ (upd H d (.frz od (.dK es))) R)
    {Y : Nat → Hp → V → Hp → Prop} (w : ∀ od, Walk (J od) es.length (fun H => H d = some (.frz od (.dK es))) Y) (Pv : Obj → Nat → L2.St → Hp → Prop) (h0 : ∀ od, Pv od 0 σ (upd H d (.frz od (.dK es)))) (hG : ∀ od i σ' H', i ≤ es.length → Pv od i σ' H' → H' d = some (.frz od (.dK es)))
    (hs : ∀ od i x σ' H' H2, i < es.length → Pv od i σ' H' → Y i H' x H2 → g x σ' H2 fun σ2 H3 => ts (shut D d (.dK es) od (Pv od (i + 1))) σ2 H3) (hn : ∀ od σ' H', Pv od es.length σ' H' → D.nx σ' (upd H' d (.dK es))) :
    tLock (tFor ti g ts) D σ H := by
  refine ⟨d, .dK es, hd, trivial, fun od => hi od _ ?_⟩
  exact for_it (w od) (Pv od) (h0 od) (fun i σ' H' hi p => hG od i σ' H' hi p) (fun i x σ' H' H2 hi p y => hs od i x σ' H' H2 hi p y) fun σ' H' p => ⟨hG od _ σ' H' (Nat.le_refl _) p, hn od σ' H' p⟩
end
end Ssb

/-! Comprehensions whose target is unpacked: lists, sets of texts. -/
namespace Ssb
open PySem PySem.Spec PyProof.Rows L2
open Evl (Ex Ev EvT EvL EvA EvU)
/-- the target takes x: the slots are σ2 behind it -/
def Unp (g : TG) (vs : List Nat) (σ σ2 : L2.St) (x : V) (H : Hp) : Prop := wipe σ2 vs = wipe σ vs ∧ ∀ Kont : L2.St → Hp → Prop, Kont σ2 H → g x (wipe σ vs) H Kont
section
variable {K : PySem.W.Frag} {σ : L2.St} {H : Hp} {te tl : TE} {vs : List Nat} {g : TG} {f : Nat → V}
theorem el_lcG {a : Addr} {xs : List V} (h : Ev tl σ H (.ref a)) (hx : SqL K H a xs) (hz : xs.length ≤ 100000) (he : ∀ (i : Nat) (x : V), xs[i]? = some x → ∀ H2, Ex H H2 → ∃ σ2, Unp g vs σ σ2 x H2 ∧ ∀ H3, Ex H H3 → Ev te σ2 H3 (f i)) :
    EvL (tLc (iList K tl) g tYes te vs) σ H ((List.range xs.length).map f) := fun H1 e Q q =>
  h H1 e _ fun H2 e2 => ⟨a, rfl, ⟨xs, Evl.ex_l (e.trans e2) hx⟩, fun Dl hD => by
    refine lc_list (K := K) (a := a) (xs := xs) (Cm H2 f Dl) ⟨hD, Ex.new hD, upd_same⟩ (fun i H' _ p => Evl.ex_l ((e.trans e2).trans p.2.1) hx) (fun i x H' hi p => ?_) fun H' p => q Dl H' (Evl.fresh_back e2 hD) (e2.trans p.2.1) p.2.2
    obtain ⟨σ2, ⟨hw, hk⟩, ev⟩ := he i x hi H' ((e.trans e2).trans p.2.1)
    exact hk _ ⟨hw, cm_next p (by have := (List.getElem?_eq_some_iff.mp hi).1; omega) (ev H2 (e.trans e2))⟩⟩
theorem yes_go {F G : Hp → Prop} (h : F H) : tYes σ H (fun b H3 => if b = true then F H3 else G H3) := by
  show (if true = true then F H else G H)
  rw [if_pos rfl]
  exact h
theorem ev_fld {a C dx : Addr} {fs : List (Str × V)} {v : V} {fn : Str} (h : Ev te σ H (.ref a)) (ho : H a = some (.ins C dx fs)) (c : Cls K C) (n : NoAttr K C fn) (l : fs.lookup fn = some v) : Ev (tFld K te fn) σ H v := fun H1 e Q q =>
  h H1 e _ fun H2 e2 => ⟨a, C, dx, fs, v, rfl, (e.trans e2) _ _ ho, c, n, l, q H2 e2⟩
theorem ev_sum {n : Nat} {c : Nat → Int} (h : EvL te σ H ((List.range n).map fun i => V.int (c i))) : Ev (tCB (rSum K) (tCons te tNil)) σ H (.int ((List.range n).map c).sum) := fun H1 e Q q =>
  h H1 e _ fun p H2 _ e2 hp => ⟨p, (List.range n).map c, rfl, by rw [List.map_map]; exact Evl.sq_of hp, q H2 e2⟩
/-- a pure answer handed on as an argument, a new tuple behind it -/
theorem rv_notN {x : V} : Evl.RV (fun x y H Q => y = .non ∧ Q (.bl (!decide (x = .non))) H) x .non H (.bl (!decide (x = .non))) := fun H1 _ _ q => ⟨rfl, q H1 (Ex.refl _)⟩
theorem rv_isN {x : V} : Evl.RV (fun x y H Q => y = .non ∧ Q (.bl (decide (x = .non))) H) x .non H (.bl (decide (x = .non))) := fun H1 _ _ q => ⟨rfl, q H1 (Ex.refl _)⟩
theorem met_snoc : ∀ (l acc : List Str) (x : Str), met acc (l ++ [x]) = put1 (met acc l) x
  | [], acc, x => rfl
  | y :: l, acc, x => met_snoc l _ x
/-- {name for .. in xs} -/
theorem ex_scG {P : Program} {w : World} {a : Addr} {xs : List V} {nms : List Str} (h : Ev tl σ H (.ref a)) (hx : SqL K H a xs) (hn : nms.length = xs.length) (few : xs.length ≤ 1000)
    (he : ∀ (i : Nat) (x : V), xs[i]? = some x → ∃ s, nms[i]? = some s ∧ ∀ H2, Ex H H2 → ∃ σ2, Unp g vs σ σ2 x H2 ∧ ∀ H3, Ex H H3 → Ev te σ2 H3 (.str s)) :
    Ev (tCB (rLenTxs P w) (tCons (tTxs P w (iList K tl) g tYes te vs) tNil)) σ H (.int ((met [] nms).length : Int)) := fun H1 e Q q =>
  h H1 e _ fun H2 e2 => ⟨a, rfl, ⟨xs, Evl.ex_l (e.trans e2) hx⟩, fun Dl hD => by
    have ml := met_len nms []
    simp only [List.length_nil] at ml
    refine ⟨fun i m H' => m = xs.length - i ∧ i ≤ xs.length ∧ Ex H2 H' ∧ H' Dl = some (Txs P w Dl (met [] (nms.take i))), ⟨xs.length, by simp, Nat.zero_le _, Ex.new hD, upd_same⟩, ?_⟩
    rintro i m H' ⟨rfl, hi, e3, hd⟩
    have sq := Evl.ex_l ((e.trans e2).trans e3) hx
    by_cases hlt : i < xs.length
    · refine .inr ⟨⟨xs, xs[i], sq, by simp [hlt]⟩, fun H' => Ex H2 H' ∧ H' Dl = some (Txs P w Dl (met [] (nms.take (i + 1)))), fun H' p' => ⟨xs.length - (i + 1), by omega, rfl, hlt, p'⟩, fun x H'' y => ?_⟩
      obtain ⟨rfl, y⟩ := y
      obtain ⟨s, hs, he2⟩ := he i x (y xs sq)
      obtain ⟨σ2, ⟨hw, hk⟩, ev⟩ := he2 _ ((e.trans e2).trans e3)
      refine hk _ ⟨hw, ev H2 (e.trans e2) _ e3 _ fun H4 e4 => ⟨s, met [] (nms.take i), rfl, e4 _ _ hd, ?_, Ex.mut (e3.trans e4) hD, ?_⟩⟩
      · have := met_len (nms.take i) []
        simp only [List.length_nil, List.length_take] at this
        exact Nat.lt_of_le_of_lt (show (met [] (nms.take i)).length + 1 ≤ 1001 by omega) (by decide)
      · rw [upd_same, List.take_add_one, hs]
        show _ = some (Txs P w Dl (met [] (nms.take i ++ [s])))
        rw [met_snoc]
    · have ei : i = xs.length := by omega
      subst ei
      refine .inl ⟨⟨xs, sq, Nat.le_refl _⟩, Dl, met [] nms, rfl, ?_, by omega, q H' (e2.trans e3)⟩
      rw [hd, ← hn, List.take_length]⟩
end
end Ssb

/-! Own errors over Exception whose __init__ keeps one attribute: made, raised. -/
namespace Ssb
open PySem PySem.Spec L2 PyProof.Rows

abbrev exBm : List Value := [.type "Exception", .type "BaseException", .type "object"]
/-- what the written part tells of such a class -/
structure OexE (K : PySem.W.Frag) (C : Addr) : Prop where
  over : PySem.W.excOver K C exBm = true
  made : PySem.W.excInitIn K C exBm "Exception.__new__" = true
  hd : PySem.W.hasDictIn K C = true
  sa : PySem.W.findIn K (.ref C) "__setattr__" = some (some (.builtin "object.__setattr__"))
  exC : PySem.W.subIn K (.ref C) (.type "BaseException") = some true
  tyC : PySem.W.typeIn K (.ref C) = some (.type "type")
  kC : PySem.W.keepIn K (.ref C) = true
section
variable {X : Cx} {pins : List (Addr × Obj)} {σ : L2.St} {H : Hp} {s : Shared} {a C : Addr} {f : Str} {y : V} {u : Value} {Q : Unit → Shared → Prop} {E : Value → Shared → Prop} {A : Around}
/-- the invariant behind the first attribute -/
theorem ost_inv {hp h' : Heap} {g : Array GenState} {d : Drawn} {t t' : Nat} {os : OsState} {dx t1 : Addr} (I : Inv X pins σ H ⟨hp, g, d, t, os⟩) (e : H a = some (exo a C none)) (ry : RelV y u) (dn : hp.objs.size ≤ dx) (dne : dx ≠ a) (k : ∀ b o, b ≠ a → hp.get? b = some o → h'.get? b = some o)
    (hx : h'.get? a = some ({ cls := .ref C, dict := some dx, data := .fields #[.ref t1, .none, .none, .none, .bool false, .none] } : Obj)) (hn : h'.Ns1 dx (fun z => if z = f then some u else none)) :
    H dx = none ∧ Inv X pins σ (upd (upd H dx (exd dx [(f, y)])) a (exo a C (some dx))) ⟨h', g, d, t', os⟩ := by
  have hnd : H dx = none := I.hok.fresh dn
  have old : ∀ b o, hp.get? b = some o → b ≠ dx := fun b o q => Nat.ne_of_lt (Nat.lt_of_lt_of_le (Heap.lt_size q) dn)
  have nota : ∀ b, H b = none → b ≠ a := fun b n z => by rw [z, e] at n; cases n
  refine ⟨hnd, I.un (t' := t') ⟨fun b o q n _ _ => k b o (nota b n) q, fun b o q n _ _ => ⟨o.slots, k b o (nota b n) q⟩, fun b o q n _ => (by rw [upd_ne (nota b n), upd_ne (old b o q)]; exact n), fun b o q _ => ?_,
    fun b xs q => (by rw [upd_ne (at_ne e q exo_tup), upd_ne (ne_of_none q hnd)]; exact q), fun b o v q => (by rw [upd_ne (at_ne e q exo_frz), upd_ne (ne_of_none q hnd)]; exact q), fun b ps q => ⟨#[], (by rw [upd_ne (at_ne e q exo_tbl), upd_ne (ne_of_none q hnd), q]; simp)⟩⟩ fun b o q => ?_⟩
  · by_cases hb : b = a
    · exact ⟨_, hb ▸ hx⟩
    · exact ⟨o, k b o hb q⟩
  · by_cases hb : b = a
    · subst hb; rw [upd_same] at q; cases q; exact exo_ok hx
    rw [upd_ne hb] at q
    by_cases hd : b = dx
    · subst hd; rw [upd_same] at q; cases q; exact exd_ok hn (relO_put (fs := []) ry fun g => True.intro)
    rw [upd_ne hd] at q
    refine (I.hok b o q).stay (fun c v hc z => k c v (hc.elim (fun hc => by rw [hc]; exact hb) fun hc => at_ne e hc exo_own) z) (fun c hc => ?_) (fun c xs hc => ?_)
    · rw [upd_ne (at_ne e hc exo_own), upd_ne (ne_of_none hc hnd)]; exact hc
    · rw [upd_ne (at_ne e hc exo_tup), upd_ne (ne_of_none hc hnd)]; exact hc
/-- self.f = y, the first attribute -/
theorem ost_newE (T : OexE X.K C) (I : Inv X pins σ H s) (e : H a = some (exo a C none)) (hno : PySem.W.findIn X.K (.ref C) f = some none) (ry : RelV y u)
    (h : ∀ dx s', H dx = none → dx ≠ a → Inv X pins σ (upd (upd H dx (exd dx [(f, y)])) a (exo a C (some dx))) s' → Q () s') : wpAny (model X.prog X.w) A (setAttr (.ref a) f u) Q E s := by
  obtain ⟨t1, ho⟩ := exo_at I.hok e
  obtain ⟨hp, g, d, t, os⟩ := s
  obtain ⟨cd, hc, hd'⟩ := PySem.W.any_some T.hd
  have hxs : a ≠ hp.objs.size := Nat.ne_of_lt (Heap.lt_size ho)
  refine PySem.W.set_plain I.kIn (od := none) ⟨ho, rfl, rfl, trivial⟩ T.sa (PySem.W.osa_openX (od := none) PySem.F.store_Exception I.kIn ⟨ho, rfl, rfl, trivial⟩ T.over (r := none) (by unfold PySem.W.takerIn; rw [hno]; rfl) fun b => ?_)
  refine wpAny_bind (wpAny_pure (wpAny_bind (PySem.W.instanceDict_exc (t := t1) (c2 := .none) ho (PySem.W.looks_clsIn I.kIn hc) hd' ?_)))
  refine PySem.HandSPX.store_in_new ?_ fun h' tk' hn' hs => ?_
  · exact ⟨_, #[], _, (Heap.get?_update_ne _ _ _ _ hxs.symm).trans (Heap.get?_push_at rfl rfl), rfl, fun e he => absurd he (by simp), fun _ => rfl⟩
  · have k : ∀ b o, b ≠ a → hp.get? b = some o → h'.get? b = some o := fun b o nb ho' => (hs.2 b (Nat.ne_of_lt (Heap.lt_size ho'))).trans ((Heap.get?_update_ne _ _ _ _ nb).trans (Heap.get?_push_of_some _ ho'))
    have hx : h'.get? a = some ({ cls := .ref C, dict := some hp.objs.size, data := .fields #[.ref t1, .none, .none, .none, .bool false, .none] } : Obj) := (hs.2 a hxs).trans (Heap.get?_update_self _ (Heap.get?_push_of_some _ ho) rfl)
    obtain ⟨n, J⟩ := ost_inv (t' := tk') I e ry (Nat.le_refl _) hxs.symm k hx hn'
    exact h _ _ n hxs.symm J
end
/-! ### readings and rules -/
/-- self.f = e within such an __init__ -/
def tOsE (K : PySem.W.Frag) (f : Str) (to te : TE) : TS := fun D σ H => te σ H fun y H1 => to σ H1 fun x H2 => ∃ a C : Addr, x = .ref a ∧ OexE K C ∧ PySem.W.findIn K (.ref C) f = some none ∧
  H2 a = some (exo a C none) ∧ ∀ dx, H2 dx = none → dx ≠ a → D.nx σ (upd (upd H2 dx (exd dx [(f, y)])) a (exo a C (some dx)))
section
variable {X : Cx} {o e : Expr} {es : List Expr} {to te : TE} {ta : TA} {f : Str} {p p' pos : Pos}
theorem ps_osE (ho : PE X o to) (he : PE X e te) (hs : swapsWith e (some (.Attribute o f p')) pos.line X.env = pure false := by rfl) : PS X (.Assign [.Attribute o f p'] e pos) (tOsE X.K f to te) :=
  ⟨fun pins s σ H D I h => plainObj_wpAny_Assign_Attribute (thn (he.run pins s σ H _ I h) fun v s1 ⟨y, H1, I1, r1, q1⟩ => thn (ho.run pins s1 σ H1 _ I1 q1) fun u s2 ⟨x, H2, I2, r2, a, C, ex, T, hno, ea, q⟩ => by
    subst ex
    cases (show u = Value.ref a from r2)
    exact ost_newE T I2 ea hno r1 fun dx s' n ne J => ⟨σ, _, J, q dx n ne⟩) hs⟩
/-- C(e, ..) as what is raised; its __init__ keeps sp -/
theorem pmk_oexE {x : Str} {C fI : Addr} {k j : Nat} {fd : FuncData} {ps : List Str} {sp : Sp} (T : OexE X.K C) (G : Mt X.prog X.w X.K X.mg X.base C "__init__" k ps sp fI fd) (tI : PySem.W.typeIn X.K (.ref fI) = some (.type "function")) (hr : Room j X.A) (hm : X.mg x = some (.ref C)) (ha : PA X (e :: es) ta) (hj : k + 1 ≤ j := by first | decide | omega)
    (hg : Gl X x := by rfl) (hdb : (x == ("__debug__" : Str)) = false := by decide) (he : starEach (e :: es) X.env = (false, eval e X.env) :: starEach es X.env := by rfl) (hpl : (backTo pos (starEach es X.env)).any (·.1) = false := by rfl) : PMk X (.Call (.Name x p) (e :: es) [] pos) (tMkO C sp [] ta) := by
  intro pins s σ H Q I h
  refine wpAny_Call_Name_kw (ld_glob I hg hm ?_ hdb)
  refine PySem.W.callWith_K (h₀ := X.base) I.ok.mod.kin T.kC (thn (ha.run pos pins s σ H _ I h) fun us s1 ⟨vs, H1, I1, r1, hz, q1⟩ => ⟨I1.kIn, ?_⟩) he hpl
  show wpAny _ _ (call (.ref C) us) _ _ _
  obtain ⟨hp, g, dr, tk, os⟩ := s1
  obtain ⟨nm, N, qn, bs, bm, hdct, sn, sub, ab, col, dd, k0, k1, k2, k3, k5, hC, hT⟩ := PySem.W.excInit_of I1.kIn T.made
  have hn : H1 (hp.objs.size + 1) = none := I1.hok.fresh (Nat.le_succ _)
  have hq := q1 (hp.objs.size + 1) hn
  rw [List.append_nil] at hq
  have kk : ∀ b o, hp.get? b = some o → ((hp.push (PySem.W.kdv_tup us)).push (PySem.HandSPX.excO C hp.objs.size)).get? b = some o := fun b o z => Heap.get?_push_of_some _ (Heap.get?_push_of_some _ z)
  have hget : ((hp.push (PySem.W.kdv_tup us)).push (PySem.HandSPX.excO C hp.objs.size)).get? (hp.objs.size + 1) = some (PySem.HandSPX.excO C hp.objs.size) := by heap_get
  have I2 := I1.laid (t' := tk) (o := exo (hp.objs.size + 1) C none) kk (Nat.le_succ _) (exo_ok hget)
  have r2 : Vals (V.ref (hp.objs.size + 1) :: vs) (Value.ref (hp.objs.size + 1) :: us) := .cons rfl r1
  have hl : (Value.ref (hp.objs.size + 1) :: us ++ []).length = ps.length := by rw [List.append_nil, ← r2.length, G.ok.len _ _ _ _ hq]
  have hb := G.bd ⟨(hp.push (PySem.W.kdv_tup us)).push (PySem.HandSPX.excO C hp.objs.size), g, dr, tk, os⟩ (Value.ref (hp.objs.size + 1) :: us) I2.kIn hl
  rw [List.append_nil] at hb
  have hus : us.length ≤ sizeLine := by rw [← Paired.length r1, sizeLine_eq]; omega
  refine wpAny_call (PySem.HandSPX.call_own PySem.F.excBase_Exception hT hC (PySem.W.looks_findIn I1.kIn G.mt.at_) (fun self => PySem.W.bind_fn I1.kIn self tI) hus
    (codeAny_mono (G.ok.run _ X.stack _ _ ⟨Value.ref (hp.objs.size + 1) :: us, []⟩ (Value.ref (hp.objs.size + 1) :: us) _ _ E0 ((hr.mono hj).make C us []) (I2.env0.make C us []) hb r2 hq) fun r s' hq' => ?_))
  cases r with
  | error er => exact hq'.elim
  | ok fl =>
    cases fl with
    | ret u =>
      obtain ⟨v, H2, os2, bare2, un2, hok2, rv, ev, d, fs, ea, ed, hd1, q2⟩ := hq'
      subst ev
      obtain ⟨h2, g2, d2, t2, os'⟩ := s'
      exact ⟨rv, mk_end (raises_own T.exC T.tyC) I1 (Nat.le_succ _) kk un2 hok2 os2 bare2 ea ed hd1 q2⟩
    | next => exact hq'.elim
    | brk => exact hq'.elim
    | cont => exact hq'.elim
end
end Ssb

/-! try .. except C as e, where the caught error stays known behind the suite. -/
namespace Ssb
open PySem PySem.Spec L2 PyProof.Rows
/-- at a: an error that was caught, of this class, with this dict -/
def exk (a : Addr) (cls : Value) (d : Option Addr) : HO := .ext fun h => ∃ oe vs, h.get? a = some oe ∧ Zc cls d oe ∧ oe.data = .fields vs
theorem exk_ok {P : Program} {w : World} {H : Hp} {h : Heap} {a : Addr} {cls : Value} {d : Option Addr} {oe : Obj} {vs : Array Value} (e : h.get? a = some oe) (z : Zc cls d oe) (f : oe.data = .fields vs) : ObjOk P w H h a (exk a cls d) :=
  ⟨⟨oe, vs, e, z, f⟩, ⟨oe, e⟩, fun _ _ ⟨o2, v2, e2, z2, f2⟩ k => ⟨o2, v2, k _ e2, z2, f2⟩⟩
theorem exk_at {P : Program} {w : World} {H : Hp} {h : Heap} {a : Addr} {cls : Value} {d : Option Addr} (hok : HOk P w H h) (e : H a = some (exk a cls d)) : ∃ oe vs, h.get? a = some oe ∧ Zc cls d oe ∧ oe.data = .fields vs := by
  have x : ObjOk P w H h a (.ext fun h => ∃ oe vs, h.get? a = some oe ∧ Zc cls d oe ∧ oe.data = .fields vs) := hok a _ e
  exact x.1
section
variable {X : Cx} {pins : List (Addr × Obj)} {σ : L2.St} {H : Hp} {s : Shared}
theorem adopt {a : Addr} {oe : Obj} {vs : Array Value} {cls : Value} {d : Option Addr} (I : Inv X ((a, oe) :: pins) σ H s) (hd : oe.data = .fields vs) (hz : Zc cls d oe) (n0 : ∀ b o, X.s_0.heap.get? b = some o → b ∉ X.ex → b ≠ a) (np : ∀ p ∈ X.pn ++ pins, p.1 ≠ a) : Inv X pins σ (upd H a (exk a cls d)) s := by
  obtain ⟨ge, na, nL, nF, nC⟩ := I.pin (a, oe) (List.mem_append_right _ List.mem_cons_self)
  have keep : ∀ {b : Addr} {o : HO}, H b = some o → (upd H a (exk a cls d)) b = some o := fun {b o} hb => by
    rw [upd_ne (fun z => by rw [z, na] at hb; cases hb)]; exact hb
  have B := I.base
  refine ⟨I.ok, I.os, I.bare, ⟨B.keep, B.slot, fun b o q n x => (by rw [upd_ne (n0 b o q x)]; exact B.free b o q n x), B.there, fun b xs q => keep (B.tups b xs q), fun b o u q => keep (B.frzs b o u q), fun b ps q => (B.tbls b ps q).imp fun _ h => keep h⟩, I.loc, I.cell, ?_, fun x c hc => ?_, fun p hp => ?_, fun b o q => ?_, I.len⟩
  · rw [upd_ne (Ne.symm nL)]; exact I.free
  · obtain ⟨v, oc, e1, e2⟩ := I.cell x c hc
    have : c ≠ a := fun z => by
      rw [z] at e1
      have e3 := Option.some.inj (ge.symm.trans e1)
      have e3 : oe = oc := e3
      rw [← e3] at e2
      exact nC _ (by simpa using e2)
    rw [upd_ne this]; exact I.freeC x c hc
  · obtain ⟨e1, e2, e3⟩ := I.pin p (by
      rcases List.mem_append.mp hp with h | h
      · exact List.mem_append_left _ h
      · exact List.mem_append_right _ (List.mem_cons_of_mem _ h))
    exact ⟨e1, by rw [upd_ne (np p hp)]; exact e2, e3⟩
  · by_cases hb : b = a
    · subst hb; rw [upd_same] at q; cases q; exact exk_ok ge hz hd
    · rw [upd_ne hb] at q
      exact (I.hok b o q).stay (fun _ _ _ z => z) (fun _ hc => keep hc) fun _ _ hc => keep hc
end
/-- what the clause asks of an error of the body: as wAs, but behind the suite a is known -/
def wKeep (K : PySem.W.Frag) (c : Value) (i : Nat) (ts : Addr → Value → Option Addr → TS) (Wout : WX) (D : Ends) : WX := fun cls d σ H => ∃ b, PySem.W.exmOne K cls c = some b ∧
  (b = true → ∀ a, H a = none → ts a cls d { nx := fun σ' H' => D.nx (σ'.set i none) (upd H' a (exk a cls d)), rt := fun v H' => D.rt v (upd H' a (exk a cls d)), bk := fun σ' H' => D.bk (σ'.set i none) (upd H' a (exk a cls d)), ct := fun σ' H' => D.ct (σ'.set i none) (upd H' a (exk a cls d)) } (σ.set i (some (.ref a))) H) ∧ (b = false → Wout cls d σ H)
section
variable {X : Cx} {x n : Str} {c : Value} {i : Nat} {body suite : List Stmt} {b₀ : Stmt} {np pos pos' : Pos} {tb : WX → TS} {ts : Addr → Value → Option Addr → TS} {Wout : WX}
theorem ps_try_keep (hs : X.stack = X.env :: X.outer) (hf : X.env.frame = some X.env.locals) (hN : X.N.Nodup) (hi : X.N[i]? = some n) (hln : X.env.kindOf n = some .local) (hc : Names X x c) (tk : Takes X Wout)
    (hb : ∀ (W : WX) (pn : List (Addr × Obj)) (xe : Value → Shared → Prop), Takes (X.tr pn xe) W → PassesOwn (model X.prog X.w) X.A X.env xe → PSs (X.tr pn xe) body (tb W))
    (hsu : ∀ (a : Addr) (oe : Obj) (cls : Value) (d : Option Addr) (pn : List (Addr × Obj)), Zc cls d oe → (∃ vs, oe.data = .fields vs) → PSs (X.suite a ((a, oe) :: pn)) (b₀ :: suite) (ts a cls d)) :
    PS X (.Try body [.ExceptHandler (some (.Name x np)) (some n) (b₀ :: suite) pos'] [] [] pos) (fun D σ H => tb (wKeep X.K c i ts Wout D) D σ H) := by
  refine ⟨fun pins s σ H D I h => ?_⟩
  have ok := I.ok
  have fr0 : X.A.frames = some (X.env :: X.outer) := by rw [ok.frames, hs]
  refine wpAny_Try_except (wpAny_mono ((hb (wKeep X.K c i ts Wout D) (X.pn ++ pins) (fun e s₁ => wpAny (model X.prog X.w) X.A (noteFrame e X.env) (fun _ s₂ => wpAny (model X.prog X.w) X.A (setFlight e none) (fun _ s₃ => wpAny (model X.prog X.w) X.A (handleBy e X.env [.ExceptHandler (some (.Name x np)) (some n) (b₀ :: suite) pos']) (SP X pins D) X.xe s₃) X.xe s₂) X.xe s₁) (fun u s' xx => ?_) PassesOwn.looking).run [] s σ H D (I.toTry _) h) (fun f s1 hsp => ?_) (fun e s1 he => he))
  · obtain ⟨a, B, sI, pins', σ1, HH, cls, d, rfl, J0, nb, up, sky, na, os, ag, b, hb1, hyes, hno⟩ := xx
    have J : Inv X pins σ1 HH sI := J0.ofTry ok
    rw [show (X.tr (X.pn ++ pins) _).stack = X.env :: X.outer from hs] at sky
    refine Sky.land Zc.steady fr0 hf sky fun h3 fl3 up3 => ?_
    have J3 : Inv X pins σ1 HH { s' with heap := h3 } := J.landed nb fl3.1 (up.trans up3) os ag
    obtain ⟨oe3, vs3, he3, hz3, hd3⟩ := fl3.there
    have nfr : a ∉ frs (X.env :: X.outer) := fun hm => by
      obtain ⟨_, o', e', hnf⟩ := fl3.2.2.1.mem hm
      rw [he3] at e'; cases e'; exact hnf _ hd3
    have nL : a ≠ X.env.locals := fun z => nfr (List.mem_filterMap.mpr ⟨X.env, List.mem_cons_self, (by rw [hf, z])⟩)
    have nF : a ∉ X.fs := fun hm => (List.mem_filterMap.mp hm).elim fun e he => nfr (List.mem_filterMap.mpr ⟨e, List.mem_cons_of_mem _ he.1, he.2⟩)
    -- the error is younger than all that stood
    have young : sI.heap.get? a = none := by
      cases hg : sI.heap.get? a with
      | none => rfl
      | some o =>
        have := nb a o hg (by rw [show (X.tr (X.pn ++ pins) _).stack = X.env :: X.outer from hs]; exact nfr)
        rw [fl3.2.1] at this; cases this
    have n0 : ∀ b o, X.s_0.heap.get? b = some o → b ∉ X.ex → b ≠ a := fun b o q hx z => by
      obtain ⟨o', h'⟩ := J.base.there b o q hx
      rw [z, young] at h'; cases h'
    have np0 : ∀ p ∈ X.pn ++ pins, p.1 ≠ a := fun p hp z => by
      have := (J.pin p hp).1
      rw [z, young] at this; cases this
    have S3 := J3.suite he3 hd3 na nL nF
    have LM := PySem.W.exm_one (M := model X.prog X.w) J3.kIn (show PySem.W.Looks (model X.prog X.w) h3 (typeOf (.ref a)) cls from fun A Q E s k q => wpAny_typeOf_ref (k _ _ he3) (by rw [hz3.1]; exact q)) hb1
    refine wpAny_handleBy_cons (codeAny_handlers_test ?_) (by intro q; cases q)
    have test : ∀ {Q : Value → Shared → Prop} {E : Value → Shared → Prop}, Q c { s' with heap := h3 } → wpAny (model X.prog X.w) (X.A.mark (some (.ref a))) (eval (.Name x np) X.env) Q E { s' with heap := h3 } := fun {Q E} q => by
      obtain ⟨hg, hdb, hm | ⟨hm, hv, hnn⟩⟩ := hc
      · exact ld_glob S3 hg hm q hdb
      · exact ld_blt S3 hg hm hv q hnn hdb
    refine test (LM.here ?_)
    cases b with
    | true =>
      refine codeAny_handlers_suite_as (HandSPX.lands_againZ fl3 fun h4 fl4 up4 => ?_)
      have J4 : Inv X pins σ1 HH { s' with heap := h4 } := J.landed nb fl4.1 ((up.trans up3).trans up4) os ag
      obtain ⟨oe4, vs4, he4, hz4, hd4⟩ := fl4.there
      refine store_ok (X := X.suite a ((a, oe4) :: (X.pn ++ pins))) (v := .ref a) (J4.suite he4 hd4 na nL nF) hN hi (.inl hln) rfl (fun s5 S5 => ?_) (.inr hln)
      refine wpAny_mono ((hsu a oe4 cls d (X.pn ++ pins) hz4 ⟨_, hd4⟩).run [] s5 _ HH _ S5 (hyes rfl a na)) (fun f s6 hsp => ?_) (fun _ _ z => False.elim z)
      have fin : ∀ {σ6 : L2.St} {H6 : Hp} {Q : Shared → Prop}, Inv (X.suite a ((a, oe4) :: (X.pn ++ pins))) [] σ6 H6 s6 → (∀ s7, Inv X pins (σ6.set i none) (upd H6 a (exk a cls d)) s7 → Q s7) →
          wpAny (model X.prog X.w) X.A (do bindName X.env n .none; unbindBehindTheSuite X.env n pos') (fun _ s7 => Q s7) X.xe s6 := fun {σ6 H6 Q} S6 hq => by
        have I6 : Inv X ((a, oe4) :: pins) σ6 H6 s6 := ⟨ok, S6.os, S6.bare, S6.base, S6.loc, S6.cell, S6.free, S6.freeC, fun p hp => S6.pin p (by
          rw [List.append_nil]
          rcases List.mem_append.mp hp with h | h
          · exact List.mem_cons_of_mem _ (List.mem_append_left _ h)
          · rcases List.mem_cons.mp h with h | h
            · rw [h]; exact List.mem_cons_self
            · exact List.mem_cons_of_mem _ (List.mem_append_right _ h)), S6.hok, S6.len⟩
        exact gone_ok I6 hN hi hln fun s7 J7 => hq s7 (adopt J7 hd4 hz4 n0 np0)
      cases f with
      | ret u => obtain ⟨v6, σ6, H6, S6, r6, q6⟩ := hsp; exact fin S6 fun s7 J7 => ⟨_, _, _, J7, r6, q6⟩
      | next => obtain ⟨σ6, H6, S6, q6⟩ := hsp; exact fin S6 fun s7 J7 => ⟨_, _, J7, q6⟩
      | brk => obtain ⟨σ6, H6, S6, q6⟩ := hsp; exact fin S6 fun s7 J7 => ⟨_, _, J7, q6⟩
      | cont => obtain ⟨σ6, H6, S6, q6⟩ := hsp; exact fin S6 fun s7 J7 => ⟨_, _, J7, q6⟩
    | false =>
      show wpAny _ X.A (handleBy (.ref a) X.env []) _ _ _
      obtain ⟨k1, k2, k3, oe, vs, T, oT, ts', he, hz, hd, h1, hr⟩ := id fl3
      refine wpAny_handleBy_nil ?_
      unfold PySem.passOn
      refine wpAny_bind (wpAny_field he hd h1 ?_)
      rw [if_neg (show ¬ ((Value.ref T == Value.none) = true) by simp)]
      have go : wpAny (model X.prog X.w) X.A (setFlight (.ref a) X.env.frame) (fun _ s4 => wpAny (model X.prog X.w) X.A (throw (.ref a) : Sem Flow) (SP X pins D) X.xe s4) X.xe { s' with heap := h3 } := by
        rw [hf]
        exact HandSPX.setFlight_upZ fl3 fun h4 hh4 up4 => wpAny_throw (tk _ _ ⟨a, B, sI, pins, σ1, HH, cls, d, rfl, J, nb, (up.trans up3).trans up4, .inr (.inr (by rw [hs]; exact hh4)), na, os, ag, hno rfl⟩)
      first
        | exact wpAny_bind go
        | exact wpAny_bind (wpAny_pure (wpAny_bind go))
  · cases f with
    | ret u => obtain ⟨v, σ1, HH, J, r, q⟩ := hsp; exact ⟨v, σ1, HH, J.ofTry ok, r, q⟩
    | next => obtain ⟨σ1, HH, J, q⟩ := hsp; exact wpAny_execs_nil ⟨σ1, HH, J.ofTry ok, q⟩
    | brk => obtain ⟨σ1, HH, J, q⟩ := hsp; exact ⟨σ1, HH, J.ofTry ok, q⟩
    | cont => obtain ⟨σ1, HH, J, q⟩ := hsp; exact ⟨σ1, HH, J.ofTry ok, q⟩
end
end Ssb

/-! A caught error that is kept: its attribute, isinstance of it. -/
namespace Ssb
open PySem PySem.Spec L2 PyProof.Rows
/-- what the class says, so that isinstance asks its instances rightly -/
structure ExK (K : PySem.W.Frag) (C : Addr) : Prop where
  xf : XfC K C
  cl : (PySem.W.clsIn K C).isSome = true
  ha : PySem.W.findIn K (.ref C) "__class__" = some (some (.builtin "object.__class__"))
  hn : PySem.W.specialIn K (.builtin "object.__class__") "__get__" = some (some (.builtin "getset_descriptor.__get__"))
  ht : PySem.W.takesIn K (.builtin "object.__class__") = some true
  hm : PySem.W.mroIn K C (.type "object") = some true
theorem exk_cl {K : PySem.W.Frag} {C : Addr} (h : PySem.W.hasDictIn K C = true) : (PySem.W.clsIn K C).isSome = true := by
  obtain ⟨cd, hc, _⟩ := PySem.W.any_some h
  rw [hc]; rfl
section
variable {X : Cx} {pins : List (Addr × Obj)} {σ : L2.St} {H : Hp} {s : Shared}
/-- the kept error as an instance of its class -/
theorem kept_inst {a C d : Addr} {fs : List (Str × V)} (I : Inv X pins σ H s) (e : H a = some (exk a (.ref C) (some d))) (ed : H d = some (.xd fs)) : ∃ (oe od : Obj) (mA : Str → Option Value), PySem.W.InstAt s.heap a oe C (some od) ∧ (∀ f, PySem.W.lookIn f od = some (mA f)) ∧ ∀ f, RelO (fs.lookup f) (mA f) := by
  obtain ⟨oe, vs, he, hz, hf⟩ := exk_at I.hok e
  obtain ⟨mA, hns, hr⟩ := (show ObjOk X.prog X.w H s.heap d (.xd fs) from I.hok d _ ed)
  obtain ⟨od, ho, hl⟩ := lookIn_ns hns
  exact ⟨oe, od, mA, ⟨he, hz.1, (by unfold PySem.W.notCls; rw [hf] <;> rfl), (by rw [hz.2]; exact ho)⟩, hl, hr⟩
/-- e.f, e a kept error -/
def tFldE (C : Addr) (f : Str) (te : TE) : TE := fun σ H Q => te σ H fun x H1 => ∃ (a d : Addr) (fs : List (Str × V)) (v : V), x = .ref a ∧ H1 a = some (exk a (.ref C) (some d)) ∧ H1 d = some (.xd fs) ∧ fs.lookup f = some v ∧ Q v H1
theorem pe_fldE {C : Addr} {e : Expr} {te : TE} {pos : Pos} {n : Str} (T : XfC X.K C) (hno : PySem.W.findIn X.K (.ref C) n = some none) (he : PE X e te) (hb : attributeBase e n X.env (eval e X.env) = eval e X.env := by rfl) : PE X (.Attribute e n pos) (tFldE C n te) := by
  refine ⟨fun pins s σ H Q I h => attr_of hb (thn (he.run pins s σ H _ I h) fun u s1 ⟨x, H1, I1, rx, a, d, fs, v, ex, ea, ed, l, q⟩ => ?_)⟩
  subst ex
  cases (show u = Value.ref a from rx)
  obtain ⟨oe, od, mA, J, hl, hr⟩ := kept_inst I1 ea ed
  obtain ⟨u, hu, ru⟩ := RelO.some_of (v := v) (o := mA n) (by rw [← l]; exact hr n)
  exact HandSPX.exc_get I1.kIn J T.ga T.gg T.exC (PySem.W.findObj_own T.hdC hno rfl (by rw [hl, hu])) (handed_of ru) ⟨v, H1, I1.tok _, ru, q⟩
/-- isinstance(e, c), e a kept error -/
def rIsiE (K : PySem.W.Frag) : List V → Hp → VK → Prop := fun xs H Q => ∃ (a C d : Addr) (fs : List (Str × V)) (c : V) (u : Value) (b : Bool), xs = [.ref a, c] ∧ ClsV c u ∧ ExK K C ∧ H a = some (exk a (.ref C) (some d)) ∧ H d = some (.xd fs) ∧ PySem.W.kitOne K (.ref C) u = some b ∧ Q (.bl b) H
theorem call_isiE : CallR X (.builtin "isinstance") (rIsiE X.K) := by
  intro pins s σ H xs us Q I r h
  obtain ⟨a, C, d, fs, c, u, b, rfl, k, T, ea, ed, e, q⟩ := h
  obtain ⟨u1, u2, rfl, r1, r2⟩ := vals2 r
  cases k.eq r2
  cases (show u1 = Value.ref a from r1)
  obtain ⟨oe, od, mA, J, hl, hr⟩ := kept_inst I ea ed
  exact PySem.W.kia_one (PySem.W.kitx_exc (od := some od) T.cl T.xf.ga T.xf.gg T.xf.exC T.ha T.hn T.ht T.hm) I.kIn J e (fun z => nomatch z) fun tk => ⟨.bl b, H, I.tok tk, rfl, q⟩
end
end Ssb

/-! Defs and methods that may raise, called where what is raised is asked for at the caller's slots. -/
namespace Ssb
open PySem PySem.Spec L2 PyProof.Rows
structure FnX (P : Program) (w : World) (K : PySem.W.Frag) (mg : Str → Option Value) (base : Heap) (nm : Str) (k : Nat) (ps : List Str) (sp : Sp) (f : Addr) (fd : FuncData) : Prop where
  ok : FnOk P w K mg base (L2.CX P w) k f fd ps sp
  at_ : mg nm = some (.ref f)
  kp : PySem.W.keepIn K (.ref f) = true
  bd : Binds K fd ps []
structure MtX (P : Program) (w : World) (K : PySem.W.Frag) (mg : Str → Option Value) (base : Heap) (C : Addr) (nm : Str) (k : Nat) (ps : List Str) (sp : Sp) (f : Addr) (fd : FuncData) : Prop where
  ok : FnOk P w K mg base (L2.CX P w) k f fd ps sp
  mt : Meth K C nm f
  bd : Binds K fd ps []
section
variable {X : Cx} {W : WX} {nm : Str} {k j : Nat} {ps : List Str} {sp : Sp} {f : Addr} {fd : FuncData} {p pos apos : Pos} {e o : Expr} {es : List Expr} {ta : TE} {t : TA} {C : Addr} {pl : Sem Bool}
theorem passes_at (tk : Takes X W) (σ : L2.St) : PassesAt (L2.CX X.prog X.w) X σ (fun cls d H => W cls d σ H) := fun pins H s e s' I c => tk _ _ (XE.of_call I (fun _ _ _ h => h) c)
/-- f(e, ..) -/
theorem pclX (G : FnX X.prog X.w X.K X.mg X.base nm k ps sp f fd) (tk : Takes X W) (hr : Room j X.A) (ha : PA X (e :: es) t) (hj : k ≤ j := by first | decide | omega) (hg : Gl X nm := by rfl) (hdb : (nm == ("__debug__" : Str)) = false := by decide)
    (he : starEach (e :: es) X.env = (false, eval e X.env) :: starEach es X.env := by rfl) (hpl : (backTo pos (starEach es X.env)).any (·.1) = false := by rfl) : PE X (.Call (.Name nm p) (e :: es) [] pos) (tCallSD sp [] (fun σ cls d H => W cls d σ H) t) :=
  pe_callSD G.ok (hr.mono hj) hg G.at_ G.kp G.bd .nil (passes_at tk) ha hdb he hpl
/-- the reading of o.m(e, ..) -/
def tMethS (C : Addr) (m : Str) (sp : Sp) (W : WX) (ta : TE) (t : TA) : TE := fun σ H Q => ta σ H fun x H1 => ∃ a dx fs, x = .ref a ∧ H1 a = some (.ins C dx fs) ∧ fs.lookup m = none ∧ t σ H1 fun vs H2 => sp (x :: vs) H2 Q fun cls d H' => W cls d σ H'
theorem pmtX (ho : PE X o ta) (c : Cls X.K C) (G : MtX X.prog X.w X.K X.mg X.base C nm k ps sp f fd) (tk : Takes X W) (hr : Room j X.A) (ha : PA X (e :: es) t) (hj : k ≤ j := by first | decide | omega)
    (he : starEach (e :: es) X.env = (false, eval e X.env) :: starEach es X.env := by rfl) (hpl : (backTo pos (starEach es X.env)).any (·.1) = false := by rfl)
    (ht : eval (.Call (.Attribute o nm apos) (e :: es) [] pos) X.env = (do
      let ov ← eval o X.env
      standAt apos.atName
      let (f, first) ← holding [ov] (getMethod ov nm pl)
      callWith pos f first (backTo pos (starEach (e :: es) X.env)) (backToKw pos (keywordEach [] X.env))) := by rfl) : PE X (.Call (.Attribute o nm apos) (e :: es) [] pos) (tMethS C nm sp W ta t) := by
  refine ⟨fun pins s σ H Q I h => PySem.W.methodCall_KW (pl := pl) (thn (ho.run pins s σ H _ I h) fun u s1 ⟨x, H1, I1, rx, a, dx, fs, ex, ea, l, q⟩ => ?_) ht⟩
  subst ex
  cases (show u = Value.ref a from rx)
  refine getmeth_ok I1 ea c G.mt l (PySem.W.callWith_K (first := [.ref a]) (h₀ := X.base) I.ok.mod.kin G.mt.kp (thn (ha.run pos pins s1 σ H1 _ I1 q) fun us s2 ⟨vs, H2, I2, r, q2⟩ => ⟨I2.kIn, ?_⟩) he hpl)
  exact run_fnSD (E := fun σ cls d H => W cls d σ H) (dvs := []) (us := .ref a :: us) (vs := .ref a :: vs) G.ok (hr.mono hj) G.bd .nil (passes_at tk σ) I2 (.cons rfl r) (by rw [List.append_nil]; exact q2)
end
end Ssb

/-! Data of any form on the heap: None, bools, ints, texts, lists, tuples, dicts with int and text keys. -/
namespace Ssb
open PySem PySem.Spec PyProof.Rows L2
open Evl (Ex Ev EvT EvL EvA EvU)
inductive G where
  | non | bl (b : Bool) | int (i : Int) | str (s : Str) | lst (l : List G) | tup (l : List G) | dic (l : List (Key × G))
abbrev KG := Key × G
def kLen : Key → Nat
  | .inr s => s.length
  | .inl _ => 0
/-- keys of a dict: different, none longer than m -/
def okK (m : Nat) (l : List KG) : Prop := (l.map fun p : KG => p.1).Nodup ∧ ∀ p ∈ l, kLen p.1 ≤ m
/-- g stands at v: no deeper than n, nothing longer than m, its lists and dicts at places of S -/
def Rp (H : Hp) (m : Nat) : Nat → (Addr → Prop) → G → V → Prop
  | 0, _, _, _ => False
  | _ + 1, _, .non, v => v = .non
  | _ + 1, _, .bl b, v => v = .bl b
  | _ + 1, _, .int i, v => v = .int i
  | _ + 1, _, .str s, v => v = .str s ∧ s.length ≤ m
  | n + 1, S, .lst l, v => ∃ a xs, v = .ref a ∧ S a ∧ H a = some (.lst xs) ∧ l.length ≤ m ∧ Paired (fun d x => Rp H m n S d x) l xs
  | n + 1, S, .tup l, v => ∃ a xs, v = .ref a ∧ H a = some (.tup xs) ∧ l.length ≤ m ∧ Paired (fun d x => Rp H m n S d x) l xs
  | n + 1, S, .dic l, v => ∃ a es, v = .ref a ∧ S a ∧ H a = some (.dK es) ∧ l.length ≤ m ∧ okK m l ∧ Paired (fun (q : KG) (e : Key × V) => e.1 = q.1 ∧ Rp H m n (fun b => S b ∧ b ≠ a) q.2 e.2) l es
section
variable {H H' : Hp} {m m' : Nat}
theorem rp_to : ∀ {n : Nat} {S : Addr → Prop} {d : G} {v : V}, (∀ b o, H b = some o → (S b ∨ ∃ xs, o = .tup xs) → H' b = some o) → Rp H m n S d v → Rp H' m n S d v
  | 0, _, _, _, _, h => h.elim
  | n + 1, S, d, v, k, h => by
    cases d with
    | non => exact h
    | bl b => exact h
    | int i => exact h
    | str s => exact h
    | lst l =>
      obtain ⟨a, xs, e, s, ha, hl, p⟩ := h
      exact ⟨a, xs, e, s, k a _ ha (.inl s), hl, pair_imp p fun d x r => rp_to k r⟩
    | tup l =>
      obtain ⟨a, xs, e, ha, hl, p⟩ := h
      exact ⟨a, xs, e, k a _ ha (.inr ⟨xs, rfl⟩), hl, pair_imp p fun d x r => rp_to k r⟩
    | dic l =>
      obtain ⟨a, es, e, s, ha, hl, nd, p⟩ := h
      exact ⟨a, es, e, s, k a _ ha (.inl s), hl, nd, pair_imp p fun q x r => ⟨r.1, rp_to (fun b o hb z => k b o hb (z.imp (·.1) id)) r.2⟩⟩
theorem rp_ex {n : Nat} {S : Addr → Prop} {d : G} {v : V} (e : Ex H H') (h : Rp H m n S d v) : Rp H' m n S d v := rp_to (fun b o hb _ => e b o hb) h
theorem rp_S : ∀ {n : Nat} {S S' : Addr → Prop} {d : G} {v : V}, (∀ b, S b → S' b) → Rp H m n S d v → Rp H m n S' d v
  | 0, _, _, _, _, _, h => h.elim
  | n + 1, S, S', d, v, k, h => by
    cases d with
    | non => exact h
    | bl b => exact h
    | int i => exact h
    | str s => exact h
    | lst l =>
      obtain ⟨a, xs, e, s, ha, hl, p⟩ := h
      exact ⟨a, xs, e, k a s, ha, hl, pair_imp p fun d x r => rp_S k r⟩
    | tup l =>
      obtain ⟨a, xs, e, ha, hl, p⟩ := h
      exact ⟨a, xs, e, ha, hl, pair_imp p fun d x r => rp_S k r⟩
    | dic l =>
      obtain ⟨a, es, e, s, ha, hl, nd, p⟩ := h
      exact ⟨a, es, e, k a s, ha, hl, nd, pair_imp p fun q x r => ⟨r.1, rp_S (fun b z => ⟨k b z.1, z.2⟩) r.2⟩⟩
/-- deeper and longer -/
theorem rp_up : ∀ {n n' : Nat} {S : Addr → Prop} {d : G} {v : V}, n ≤ n' → m ≤ m' → Rp H m n S d v → Rp H m' n' S d v
  | 0, _, _, _, _, _, _, h => h.elim
  | n + 1, n', S, d, v, hn, hm, h => by
    obtain ⟨n', rfl⟩ : ∃ k, n' = k + 1 := ⟨n' - 1, by omega⟩
    have hn : n ≤ n' := by omega
    cases d with
    | non => exact h
    | bl b => exact h
    | int i => exact h
    | str s => exact ⟨h.1, Nat.le_trans h.2 hm⟩
    | lst l =>
      obtain ⟨a, xs, e, s, ha, hl, p⟩ := h
      exact ⟨a, xs, e, s, ha, Nat.le_trans hl hm, pair_imp p fun d x r => rp_up hn hm r⟩
    | tup l =>
      obtain ⟨a, xs, e, ha, hl, p⟩ := h
      exact ⟨a, xs, e, ha, Nat.le_trans hl hm, pair_imp p fun d x r => rp_up hn hm r⟩
    | dic l =>
      obtain ⟨a, es, e, s, ha, hl, nd, p⟩ := h
      exact ⟨a, es, e, s, ha, Nat.le_trans hl hm, ⟨nd.1, fun p hp => Nat.le_trans (nd.2 p hp) hm⟩, pair_imp p fun q x r => ⟨r.1, rp_up hn hm r.2⟩⟩
theorem rp_dom : ∀ {n : Nat} {S : Addr → Prop} {d : G} {v : V}, Rp H m n S d v → Rp H m n (fun b => S b ∧ H b ≠ none) d v
  | 0, _, _, _, h => h.elim
  | n + 1, S, d, v, h => by
    have some_ : ∀ {a : Addr} {o : HO}, H a = some o → H a ≠ none := fun {a o} h e => by rw [e] at h; cases h
    cases d with
    | non => exact h
    | bl b => exact h
    | int i => exact h
    | str s => exact h
    | lst l =>
      obtain ⟨a, xs, e, s, ha, hl, p⟩ := h
      exact ⟨a, xs, e, ⟨s, some_ ha⟩, ha, hl, pair_imp p fun d x r => rp_dom r⟩
    | tup l =>
      obtain ⟨a, xs, e, ha, hl, p⟩ := h
      exact ⟨a, xs, e, ha, hl, pair_imp p fun d x r => rp_dom r⟩
    | dic l =>
      obtain ⟨a, es, e, s, ha, hl, nd, p⟩ := h
      exact ⟨a, es, e, ⟨s, some_ ha⟩, ha, hl, nd, pair_imp p fun q x r => ⟨r.1, rp_S (fun b z => ⟨⟨z.1.1, z.2⟩, z.1.2⟩) (rp_dom r.2)⟩⟩
theorem rp_lock {n : Nat} {S : Addr → Prop} {d : G} {v : V} {a : Addr} {es : List (Key × V)} {u : HO} (ha : H a = some (.dK es)) (hS : ∀ b, S b → b ≠ a) (h : Rp H m n S d v) : Rp (upd H a u) m n S d v :=
  rp_to (fun b o hb z => by
    have ne : b ≠ a := by
      rcases z with z | ⟨xs, rfl⟩
      · exact hS b z
      · intro e; rw [e, ha] at hb; cases hb
    rw [upd_ne ne]; exact hb) h
theorem rp_upd {n : Nat} {S : Addr → Prop} {d : G} {v : V} {a : Addr} {o u : HO} (ha : H a = some o) (no : ∀ xs, o ≠ .tup xs) (hS : ∀ b, S b → b ≠ a) (h : Rp H m n S d v) : Rp (upd H a u) m n S d v :=
  rp_to (fun b o' hb z => by
    have ne : b ≠ a := by
      rcases z with z | ⟨xs, rfl⟩
      · exact hS b z
      · intro e; rw [e, ha] at hb; cases hb; exact no xs rfl
    rw [upd_ne ne]; exact hb) h
theorem rp_in {H1 H2 : Hp} {n : Nat} {S : Addr → Prop} {x : G} {v : V} {d : Addr} {es : List (Key × V)} {u : HO} (hd : H1 d = some (.dK es)) (e2 : Ex (upd H1 d u) H2) (h : Rp H1 m n (fun b => S b ∧ b ≠ d) x v) : Rp H2 m n (fun b => S b ∧ b ≠ d) x v :=
  rp_ex e2 (rp_lock hd (fun _ z => z.2) h)
theorem rp_pos {n : Nat} {S : Addr → Prop} {d : G} {v : V} (h : Rp H m n S d v) : ∃ k, n = k + 1 := by
  cases n with
  | zero => exact h.elim
  | succ n => exact ⟨n, rfl⟩
end
def kG : Key → G
  | .inr s => .str s
  | .inl i => .int i
theorem rp_key {H : Hp} {m n : Nat} {S : Addr → Prop} {k : Key} (h : kLen k ≤ m) : Rp H m (n + 1) S (kG k) (kV k) := by
  cases k with
  | inl i => exact (rfl : kV (Sum.inl i) = V.int i)
  | inr s => exact ⟨rfl, h⟩
/-! ### kinds -/
def gT : G → String
  | .non => "NoneType" | .bl _ => "bool" | .int _ => "int" | .str _ => "str" | .lst _ => "list" | .tup _ => "tuple" | .dic _ => "dict"
theorem rp_ty {K : PySem.W.Frag} {H : Hp} {m n : Nat} {S : Addr → Prop} {d : G} {v : V} (h : Rp H m n S d v) : TyOf K H v (.type (gT d)) := by
  obtain ⟨n, rfl⟩ := rp_pos h
  cases d with
  | non => have e : v = .non := h; subst e; exact .non
  | bl b => have e : v = .bl b := h; subst e; exact .bl b
  | int i => have e : v = .int i := h; subst e; exact .int i
  | str s => have e : v = .str s := h.1; subst e; exact .str s
  | lst l => obtain ⟨a, xs, rfl, _, ha, _⟩ := h; exact .lst ha
  | tup l => obtain ⟨a, xs, rfl, ha, _⟩ := h; exact .tup ha
  | dic l => obtain ⟨a, es, rfl, _, ha, _⟩ := h; exact .dK ha
/-- isinstance of a datum: what it says -/
def isK (g : G) (T : String) : Bool := (kitB (gT g) T).getD false
theorem kits : ∀ a ∈ ["NoneType", "bool", "int", "str", "list", "tuple", "dict"], ∀ b ∈ ["bool", "int", "str", "list", "tuple", "dict"], (kitB a b).isSome = true := by decide +kernel
theorem kit_some (g : G) {T : String} (h : T ∈ ["bool", "int", "str", "list", "tuple", "dict"]) : kitB (gT g) T = some (isK g T) := by
  have := kits (gT g) (by cases g <;> simp [gT]) T h
  unfold isK
  cases e : kitB (gT g) T with
  | none => rw [e] at this; cases this
  | some b => rfl
theorem ev_isG {K : PySem.W.Frag} {σ : L2.St} {H : Hp} {te : TE} {m n : Nat} {S : Addr → Prop} {d : G} {v : V} {T : String} (h : Ev te σ H v) (hr : Rp H m n S d v) (hT : T ∈ ["bool", "int", "str", "list", "tuple", "dict"] := by decide) : Ev (tCB (rIsi K) (tCons te (tCons (tC (.ty T)) tNil))) σ H (.bl (isK d T)) :=
  ev_isi h (fun H1 e1 => .base (rp_ty (rp_ex e1 hr))) (kit_ty (kit_some d hT))
/-! ### what a dict tells -/
def lkG (l : List KG) (k : Key) : Option G := (l.find? fun p => decide (p.1 = k)).map (·.2)
theorem lkG_cons (p : KG) (l : List KG) (k : Key) : lkG (p :: l) k = if p.1 = k then some p.2 else lkG l k := by
  unfold lkG
  rw [List.find?_cons]
  by_cases h : p.1 = k
  · rw [decide_eq_true h, if_pos h]; rfl
  · rw [decide_eq_false h, if_neg h]
theorem pair_lkG {F : G → V → Prop} : ∀ {l : List KG} {es : List (Key × V)}, Paired (fun (q : KG) (e : Key × V) => e.1 = q.1 ∧ F q.2 e.2) l es → ∀ k, (∃ d v, lkG l k = some d ∧ valV es k = some v ∧ F d v) ∨ (lkG l k = none ∧ valV es k = none)
  | _, _, .nil, k => .inr ⟨rfl, rfl⟩
  | q :: l, e :: es, .cons h t, k => by
    rw [lkG_cons, vV_cons, h.1]
    by_cases c : q.1 = k
    · rw [if_pos c, if_pos c]; exact .inl ⟨_, _, rfl, rfl, h.2⟩
    · rw [if_neg c, if_neg c]; exact pair_lkG t k
theorem lkG_mem : ∀ {l : List KG} {k : Key} {d : G}, lkG l k = some d → (k, d) ∈ l
  | p :: l, k, d, h => by
    rw [lkG_cons] at h
    by_cases c : p.1 = k
    · rw [if_pos c] at h; cases h; rw [← c]; exact List.mem_cons_self
    · rw [if_neg c] at h; exact List.mem_cons_of_mem _ (lkG_mem h)
theorem lkG_of : ∀ {l : List KG} {k : Key} {d : G}, (l.map fun p : KG => p.1).Nodup → (k, d) ∈ l → lkG l k = some d
  | p :: l, k, d, nd, h => by
    rw [List.map_cons, List.nodup_cons] at nd
    rw [lkG_cons]
    rcases List.mem_cons.mp h with h | h
    · subst h; rw [if_pos rfl]
    · rw [if_neg, lkG_of nd.2 h]
      intro e
      exact nd.1 (e ▸ List.mem_map.mpr ⟨_, h, rfl⟩)
theorem pair_keysG {F : KG → Key × V → Prop} {l : List KG} {es : List (Key × V)} (h : Paired (fun p e => e.1 = p.1 ∧ F p e) l es) : (es.map fun e : Key × V => e.1) = l.map fun p : KG => p.1 := by
  induction h with
  | nil => rfl
  | cons h t ih => rw [List.map_cons, List.map_cons, ih, h.1]
theorem valV_atK : ∀ {es : List (Key × V)} {i : Nat} {k : Key} {v : V}, (es.map fun e : Key × V => e.1).Nodup → es[i]? = some (k, v) → valV es k = some v
  | [], i, k, v, _, h => by simp at h
  | e :: es, 0, k, v, _, h => by
    simp at h; subst h
    rw [vV_cons, if_pos rfl]
  | e :: es, i + 1, k, v, nd, h => by
    have h2 : es[i]? = some (k, v) := by simpa using h
    rw [List.map_cons, List.nodup_cons] at nd
    rw [vV_cons, if_neg, valV_atK nd.2 h2]
    intro z
    refine nd.1 ?_
    rw [z]
    exact List.mem_map.mpr ⟨(k, v), List.mem_of_getElem? h2, rfl⟩
theorem vK_no : ∀ {es : List (Key × V)} {k : Key}, k ∉ (es.map fun e : Key × V => e.1) → valV es k = none
  | [], _, _ => rfl
  | e :: es, k, h => by
    rw [vV_cons, if_neg (fun z => h (by rw [← z]; exact List.mem_cons_self))]
    exact vK_no fun z => h (List.mem_cons_of_mem _ z)
/-! ### from data with text keys -/
mutual
def emb : D → G
  | .non => .non | .bl b => .bl b | .int i => .int i | .str s => .str s | .lst l => .lst (embL l) | .tup l => .tup (embL l) | .dic l => .dic (embD l)
def embL : List D → List G
  | [] => [] | d :: l => emb d :: embL l
def embD : List (Str × D) → List KG
  | [] => [] | p :: l => (Sum.inr p.1, emb p.2) :: embD l
end
theorem embL_eq : ∀ l : List D, embL l = l.map emb
  | [] => by rw [embL]; rfl
  | d :: l => by rw [embL, embL_eq l]; rfl
theorem embD_eq : ∀ l : List (Str × D), embD l = l.map fun p => ((Sum.inr p.1, emb p.2) : KG)
  | [] => by rw [embD]; rfl
  | d :: l => by rw [embD, embD_eq l]; rfl
/-- nothing longer than m, no name twice -/
def szD (m : Nat) : Nat → D → Prop
  | n + 1, .str s => s.length ≤ m
  | n + 1, .lst l => l.length ≤ m ∧ ∀ x ∈ l, szD m n x
  | n + 1, .tup l => l.length ≤ m ∧ ∀ x ∈ l, szD m n x
  | n + 1, .dic l => l.length ≤ m ∧ (l.map (·.1)).Nodup ∧ ∀ p ∈ l, p.1.length ≤ m ∧ szD m n p.2
  | _, _ => True
theorem pair_map2 {α β γ δ : Type} {F : α → β → Prop} {F' : γ → δ → Prop} {f : α → γ} {g : β → δ} : ∀ {l : List α} {k : List β}, Paired F l k → (∀ a ∈ l, ∀ b, F a b → F' (f a) (g b)) → Paired F' (l.map f) (k.map g)
  | _, _, .nil, _ => .nil
  | _, _, .cons h t, k => .cons (k _ List.mem_cons_self _ h) (pair_map2 t fun a ha b hb => k a (List.mem_cons_of_mem _ ha) b hb)
theorem rp_emb {H : Hp} {m : Nat} : ∀ {n : Nat} {S : Addr → Prop} {d : D} {v : V}, Rep H n S d v → szD m n d → Rp H m n S (emb d) v
  | 0, _, _, _, h, _ => h.elim
  | n + 1, S, d, v, h, z => by
    cases d with
    | non => rw [emb]; exact h
    | bl b => rw [emb]; exact h
    | int i => rw [emb]; exact h
    | str s => rw [emb]; exact ⟨h, z⟩
    | lst l =>
      obtain ⟨a, xs, e, s, ha, hl, p⟩ := h
      rw [emb, embL_eq]
      refine ⟨a, xs, e, s, ha, by rw [List.length_map]; exact z.1, ?_⟩
      have := pair_map2 (F' := fun d x => Rp H m n S d x) (f := emb) (g := _root_.id) p fun d hd x r => rp_emb r (z.2 d hd)
      rw [List.map_id] at this; exact this
    | tup l =>
      obtain ⟨a, xs, e, ha, hl, p⟩ := h
      rw [emb, embL_eq]
      refine ⟨a, xs, e, ha, by rw [List.length_map]; exact z.1, ?_⟩
      have := pair_map2 (F' := fun d x => Rp H m n S d x) (f := emb) (g := _root_.id) p fun d hd x r => rp_emb r (z.2 d hd)
      rw [List.map_id] at this; exact this
    | dic l =>
      obtain ⟨a, es, e, s, ha, hl, p⟩ := h
      rw [emb, embD_eq]
      refine ⟨a, es, e, s, ha, by rw [List.length_map]; exact z.1, ?_, ?_⟩
      · refine ⟨?_, fun p hp => ?_⟩
        · have : ((l.map fun p => ((Sum.inr p.1, emb p.2) : KG)).map fun p : KG => p.1) = (l.map (·.1)).map Sum.inr := by rw [List.map_map, List.map_map]; rfl
          rw [this]
          exact List.Pairwise.map _ (fun a b h z => h (Sum.inr.inj z)) z.2.1
        · obtain ⟨q, hq, rfl⟩ := List.mem_map.mp hp
          exact (z.2.2 q hq).1
      · have := pair_map2 (F' := fun (q : KG) (e : Key × V) => e.1 = q.1 ∧ Rp H m n (fun b => S b ∧ b ≠ a) q.2 e.2) (f := fun p : Str × D => ((Sum.inr p.1, emb p.2) : KG)) (g := fun e : Key × V => e) p fun q hq x r => (show x.1 = Sum.inr q.1 ∧ Rp H m n (fun b => S b ∧ b ≠ a) (emb q.2) x.2 from ⟨r.1, rp_emb r.2 (z.2.2 q hq).2⟩)
        rw [List.map_id'] at this; exact this
end Ssb

/-! C(..) that may raise, at the caller's slots; try with two clauses, the first of which never fits, the second kept. -/
namespace Ssb
open PySem PySem.Spec L2 PyProof.Rows
def tMakeS (C : Addr) (sp : Sp) (W : WX) (t : TA) : TE := fun σ H Q => t σ H fun vs H1 => ∀ x dx, H1 x = none → H1 dx = none → dx ≠ x →
  sp (.ref x :: vs) (upd (upd H1 dx (.own x)) x (.ins C dx [])) (fun v H2 => v = .non ∧ Q (.ref x) H2) fun cls d H' => W cls d σ H'
section
variable {X : Cx} {W : WX} {nm : Str} {k j : Nat} {ps : List Str} {sp : Sp} {f C : Addr} {fd : FuncData} {p pos : Pos} {e : Expr} {es : List Expr} {t : TA}
theorem pmkX (G : MtX X.prog X.w X.K X.mg X.base C "__init__" k ps sp f fd) (tk : Takes X W) (h1 : PySem.W.makesIn X.K C = true) (h2 : PySem.W.keepIn X.K (.ref C) = true) (h3 : X.mg nm = some (.ref C)) (hr : Room j X.A) (ha : PA X (e :: es) t) (hj : k + 1 ≤ j := by first | decide | omega) (hg : Gl X nm := by rfl) (hdb : (nm == ("__debug__" : Str)) = false := by decide)
    (he : starEach (e :: es) X.env = (false, eval e X.env) :: starEach es X.env := by rfl) (hpl : (backTo pos (starEach es X.env)).any (·.1) = false := by rfl) : PE X (.Call (.Name nm p) (e :: es) [] pos) (tMakeS C sp W t) := by
  refine ⟨fun pins s σ H Q I h => wpAny_Call_Name_kw (ld_glob I hg h3 (PySem.W.callWith_K (h₀ := X.base) I.ok.mod.kin h2 (thn (ha.run pos pins s σ H _ I h) fun us s1 ⟨vs, H1, I1, r, q⟩ => ⟨I1.kIn, ?_⟩) he hpl) hdb)⟩
  have young := q (s1.heap.objs.size + 1) s1.heap.objs.size (I1.hok.fresh (Nat.le_succ _)) (I1.hok.fresh (Nat.le_refl _)) (Nat.ne_of_lt (Nat.lt_succ_self _))
  have J := Inv.made (C := C) I1
  have rel : Vals (V.ref (s1.heap.objs.size + 1) :: vs) (Value.ref (s1.heap.objs.size + 1) :: us) := .cons rfl r
  have len : (Value.ref (s1.heap.objs.size + 1) :: us ++ []).length = ps.length := by rw [List.append_nil, ← rel.length, G.ok.len _ _ _ _ young]
  have bnd := G.bd _ (Value.ref (s1.heap.objs.size + 1) :: us) J.kIn len
  rw [List.append_nil] at bnd
  show wpAny _ _ (call (.ref C) us) _ _ _
  refine wpAny_call (make_map (f := f) I1.kIn h1 G.mt.at_ (beq_iff_eq.mp G.mt.fn) (codeAny_mono (G.ok.run _ X.stack _ _ ⟨Value.ref (s1.heap.objs.size + 1) :: us, []⟩ _ _ _ _ ((hr.mono hj).make C us []) (J.env0.make C us []) bnd rel young) fun res s2 after => ?_))
  cases res with
  | error er => exact passes_at tk σ pins _ _ er s2 J after
  | ok fl =>
    cases fl with
    | ret u =>
      obtain ⟨v, H', I3, rv, ev, q3⟩ := J.after after
      subst ev
      exact ⟨rv, ⟨V.ref (s1.heap.objs.size + 1), H', I3, rfl, q3⟩⟩
    | next => exact False.elim after
    | brk => exact False.elim after
    | cont => exact False.elim after
end
section
variable {X : Cx} {x0 x n : Str} {c0 c : Value} {i : Nat} {body suite suite0 : List Stmt} {b0 b₀ : Stmt} {np0 np pos pos0 pos' : Pos} {tb : WX → TS} {ts : Addr → Value → Option Addr → TS} {Wout : WX}
/-- the first clause is asked and does not fit -/
def wSkip (K : PySem.W.Frag) (c0 : Value) (W : WX) : WX := fun cls d σ H => PySem.W.exmOne K cls c0 = some false ∧ W cls d σ H
theorem ps_try_keep2 (hs : X.stack = X.env :: X.outer) (hf : X.env.frame = some X.env.locals) (hN : X.N.Nodup) (hi : X.N[i]? = some n) (hln : X.env.kindOf n = some .local) (hc0 : Names X x0 c0) (hc : Names X x c) (tk : Takes X Wout)
    (hb : ∀ (W : WX) (pn : List (Addr × Obj)) (xe : Value → Shared → Prop), Takes (X.tr pn xe) W → PassesOwn (model X.prog X.w) X.A X.env xe → PSs (X.tr pn xe) body (tb W))
    (hsu : ∀ (a : Addr) (oe : Obj) (cls : Value) (d : Option Addr) (pn : List (Addr × Obj)), Zc cls d oe → (∃ vs, oe.data = .fields vs) → PSs (X.suite a ((a, oe) :: pn)) (b₀ :: suite) (ts a cls d)) :
    PS X (.Try body [.ExceptHandler (some (.Name x0 np0)) none (b0 :: suite0) pos0, .ExceptHandler (some (.Name x np)) (some n) (b₀ :: suite) pos'] [] [] pos) (fun D σ H => tb (wSkip X.K c0 (wKeep X.K c i ts Wout D)) D σ H) := by
  refine ⟨fun pins s σ H D I h => ?_⟩
  have ok := I.ok
  have fr0 : X.A.frames = some (X.env :: X.outer) := by rw [ok.frames, hs]
  refine wpAny_Try_except (wpAny_mono ((hb (wSkip X.K c0 (wKeep X.K c i ts Wout D)) (X.pn ++ pins) (fun e s₁ => wpAny (model X.prog X.w) X.A (noteFrame e X.env) (fun _ s₂ => wpAny (model X.prog X.w) X.A (setFlight e none) (fun _ s₃ => wpAny (model X.prog X.w) X.A (handleBy e X.env [.ExceptHandler (some (.Name x0 np0)) none (b0 :: suite0) pos0, .ExceptHandler (some (.Name x np)) (some n) (b₀ :: suite) pos']) (SP X pins D) X.xe s₃) X.xe s₂) X.xe s₁) (fun u s' xx => ?_) PassesOwn.looking).run [] s σ H D (I.toTry _) h) (fun f s1 hsp => ?_) (fun e s1 he => he))
  · obtain ⟨a, B, sI, pins', σ1, HH, cls, d, rfl, J0, nb, up, sky, na, os, ag, hb0, b, hb1, hyes, hno⟩ := xx
    have J : Inv X pins σ1 HH sI := J0.ofTry ok
    rw [show (X.tr (X.pn ++ pins) _).stack = X.env :: X.outer from hs] at sky
    refine Sky.land Zc.steady fr0 hf sky fun h3 fl3 up3 => ?_
    have J3 : Inv X pins σ1 HH { s' with heap := h3 } := J.landed nb fl3.1 (up.trans up3) os ag
    obtain ⟨oe3, vs3, he3, hz3, hd3⟩ := fl3.there
    have nfr : a ∉ frs (X.env :: X.outer) := fun hm => by
      obtain ⟨_, o', e', hnf⟩ := fl3.2.2.1.mem hm
      rw [he3] at e'; cases e'; exact hnf _ hd3
    have nL : a ≠ X.env.locals := fun z => nfr (List.mem_filterMap.mpr ⟨X.env, List.mem_cons_self, (by rw [hf, z])⟩)
    have nF : a ∉ X.fs := fun hm => (List.mem_filterMap.mp hm).elim fun e he => nfr (List.mem_filterMap.mpr ⟨e, List.mem_cons_of_mem _ he.1, he.2⟩)
    have young : sI.heap.get? a = none := by
      cases hg : sI.heap.get? a with
      | none => rfl
      | some o =>
        have := nb a o hg (by rw [show (X.tr (X.pn ++ pins) _).stack = X.env :: X.outer from hs]; exact nfr)
        rw [fl3.2.1] at this; cases this
    have n0 : ∀ b o, X.s_0.heap.get? b = some o → b ∉ X.ex → b ≠ a := fun b o q hx z => by
      obtain ⟨o', h'⟩ := J.base.there b o q hx
      rw [z, young] at h'; cases h'
    have np0 : ∀ p ∈ X.pn ++ pins, p.1 ≠ a := fun p hp z => by
      have := (J.pin p hp).1
      rw [z, young] at this; cases this
    have S3 := J3.suite he3 hd3 na nL nF
    have looks : PySem.W.Looks (model X.prog X.w) h3 (typeOf (.ref a)) cls := fun A Q E s k q => wpAny_typeOf_ref (k _ _ he3) (by rw [hz3.1]; exact q)
    have LM := PySem.W.exm_one (M := model X.prog X.w) J3.kIn looks hb1
    have LM0 := PySem.W.exm_one (M := model X.prog X.w) J3.kIn looks hb0
    have ask : ∀ {y : Str} {cy : Value} {npy : Pos}, Names X y cy → ∀ {Q : Value → Shared → Prop} {E : Value → Shared → Prop}, Q cy { s' with heap := h3 } → wpAny (model X.prog X.w) (X.A.mark (some (.ref a))) (eval (.Name y npy) X.env) Q E { s' with heap := h3 } := fun {y cy npy} hy {Q E} q => by
      obtain ⟨hg, hdb, hm | ⟨hm, hv, hnn⟩⟩ := hy
      · exact ld_glob S3 hg hm q hdb
      · exact ld_blt S3 hg hm hv q hnn hdb
    refine wpAny_handleBy_cons (codeAny_handlers_test (ask hc0 (LM0.here ?_))) (by intro q; cases q)
    show wpAny _ X.A (handleBy (.ref a) X.env [.ExceptHandler (some (.Name x np)) (some n) (b₀ :: suite) pos']) _ _ _
    refine wpAny_handleBy_cons (codeAny_handlers_test (ask hc (LM.here ?_))) (by intro q; cases q)
    cases b with
    | true =>
      refine codeAny_handlers_suite_as (HandSPX.lands_againZ fl3 fun h4 fl4 up4 => ?_)
      have J4 : Inv X pins σ1 HH { s' with heap := h4 } := J.landed nb fl4.1 ((up.trans up3).trans up4) os ag
      obtain ⟨oe4, vs4, he4, hz4, hd4⟩ := fl4.there
      refine store_ok (X := X.suite a ((a, oe4) :: (X.pn ++ pins))) (v := .ref a) (J4.suite he4 hd4 na nL nF) hN hi (.inl hln) rfl (fun s5 S5 => ?_) (.inr hln)
      refine wpAny_mono ((hsu a oe4 cls d (X.pn ++ pins) hz4 ⟨_, hd4⟩).run [] s5 _ HH _ S5 (hyes rfl a na)) (fun f s6 hsp => ?_) (fun _ _ z => False.elim z)
      have fin : ∀ {σ6 : L2.St} {H6 : Hp} {Q : Shared → Prop}, Inv (X.suite a ((a, oe4) :: (X.pn ++ pins))) [] σ6 H6 s6 → (∀ s7, Inv X pins (σ6.set i none) (upd H6 a (exk a cls d)) s7 → Q s7) →
          wpAny (model X.prog X.w) X.A (do bindName X.env n .none; unbindBehindTheSuite X.env n pos') (fun _ s7 => Q s7) X.xe s6 := fun {σ6 H6 Q} S6 hq => by
        have I6 : Inv X ((a, oe4) :: pins) σ6 H6 s6 := ⟨ok, S6.os, S6.bare, S6.base, S6.loc, S6.cell, S6.free, S6.freeC, fun p hp => S6.pin p (by
          rw [List.append_nil]
          rcases List.mem_append.mp hp with h | h
          · exact List.mem_cons_of_mem _ (List.mem_append_left _ h)
          · rcases List.mem_cons.mp h with h | h
            · rw [h]; exact List.mem_cons_self
            · exact List.mem_cons_of_mem _ (List.mem_append_right _ h)), S6.hok, S6.len⟩
        exact gone_ok I6 hN hi hln fun s7 J7 => hq s7 (adopt J7 hd4 hz4 n0 np0)
      cases f with
      | ret u => obtain ⟨v6, σ6, H6, S6, r6, q6⟩ := hsp; exact fin S6 fun s7 J7 => ⟨_, _, _, J7, r6, q6⟩
      | next => obtain ⟨σ6, H6, S6, q6⟩ := hsp; exact fin S6 fun s7 J7 => ⟨_, _, J7, q6⟩
      | brk => obtain ⟨σ6, H6, S6, q6⟩ := hsp; exact fin S6 fun s7 J7 => ⟨_, _, J7, q6⟩
      | cont => obtain ⟨σ6, H6, S6, q6⟩ := hsp; exact fin S6 fun s7 J7 => ⟨_, _, J7, q6⟩
    | false =>
      show wpAny _ X.A (handleBy (.ref a) X.env []) _ _ _
      obtain ⟨k1, k2, k3, oe, vs, T, oT, ts', he, hz, hd, h1, hr⟩ := id fl3
      refine wpAny_handleBy_nil ?_
      unfold PySem.passOn
      refine wpAny_bind (wpAny_field he hd h1 ?_)
      rw [if_neg (show ¬ ((Value.ref T == Value.none) = true) by simp)]
      have go : wpAny (model X.prog X.w) X.A (setFlight (.ref a) X.env.frame) (fun _ s4 => wpAny (model X.prog X.w) X.A (throw (.ref a) : Sem Flow) (SP X pins D) X.xe s4) X.xe { s' with heap := h3 } := by
        rw [hf]
        exact HandSPX.setFlight_upZ fl3 fun h4 hh4 up4 => wpAny_throw (tk _ _ ⟨a, B, sI, pins, σ1, HH, cls, d, rfl, J, nb, (up.trans up3).trans up4, .inr (.inr (by rw [hs]; exact hh4)), na, os, ag, hno rfl⟩)
      first
        | exact wpAny_bind go
        | exact wpAny_bind (wpAny_pure (wpAny_bind go))
  · cases f with
    | ret u => obtain ⟨v, σ1, HH, J, r, q⟩ := hsp; exact ⟨v, σ1, HH, J.ofTry ok, r, q⟩
    | next => obtain ⟨σ1, HH, J, q⟩ := hsp; exact wpAny_execs_nil ⟨σ1, HH, J.ofTry ok, q⟩
    | brk => obtain ⟨σ1, HH, J, q⟩ := hsp; exact ⟨σ1, HH, J.ofTry ok, q⟩
    | cont => obtain ⟨σ1, HH, J, q⟩ := hsp; exact ⟨σ1, HH, J.ofTry ok, q⟩
end
end Ssb

/-! list(reversed(a list)) as one expression. -/
namespace Ssb
open PySem PySem.Spec PyProof.Rows L2 RT
section
variable {pr : Program} {wd : World} {Ar : Around} {Er : Value → Shared → Prop} {st : Shared}
/-- a fresh list taking what the walker over l, from its end, hands out -/
theorem ext_rev {R : Result → Shared → Prop} {it l S : Addr} {vs : Array Value} (hh : Ar.handled = none) (hit : st.heap.IsRevIter it l ((vs.size : Int) - 1)) (hl : st.heap.IsList l vs) (n1 : l ≠ it) (n2 : S ≠ it) (n3 : S ≠ l) (hn : vs.size ≤ sizeLine)
    (res : Value) (c₀ : Nat) (hS : st.heap.get? S = some { cls := .type "list", data := .seq #[] c₀ })
    (k : ∀ (h' : Heap) (tk : Nat) (acc : Array Value) (c' : Nat), (∀ b o, b ≠ S → b ≠ it → st.heap.get? b = some o → h'.get? b = some o) → h'.get? S = some { cls := .type "list", dict := none, data := .seq acc c', slots := #[] } →
      ItemsOf (fun i v => vs[vs.size - 1 - i]? = some v) acc vs.size → R (.ok (.ret res)) { st with heap := h', toks := tk }) :
    wpAny (model pr wd) Ar.in1 (Builtin.List.listExtendWith (.ref S) (.ref it) res) (fun fin z => match fin with | .done f => R (.ok f) z | .again c' => c'.quiet = true ∧ codeAny (model pr wd) Ar c' R z) (fun e z => R (.error e) z) st := by
  have W := (Walks.listRev (prog := pr) (w := wd) (A := Ar.in1) hh it l n1 vs).toS
  have out : S ∉ [it, l] := by simp [n2, n3]
  have ht : st.TypeIs (.ref it) "list_reverseiterator" := hit.typeIs
  have ns : Builtin.List.listSameRef (.ref S) (.ref it) = false := by simp [Builtin.List.listSameRef, n2]
  unfold Builtin.List.listExtendWith
  refine wpAny_bind (wpAny_typeOf ht ?_)
  rw [if_neg (by rw [ns]; decide)]
  refine wpAny_bind (wpAny_pyIter_revIter hit (wpAny_bind (wpAny_holding ?_)))
  unfold Builtin.List.listLengthHint
  refine wpAny_bind (wpAny_specialOf ht nolen_lri ?_)
  show wpAny _ _ (specialOf (.ref it) (Str.ofString "__length_hint__") >>= _) _ _ _
  refine wpAny_bind (wpAny_specialOf ht hint_lri ?_)
  generalize hid : ("list_reverseiterator.__length_hint__" : String) = hintName
  wp_delta
  rw [show splitId hintName = some ("list_reverseiterator", "__length_hint__") from by rw [← hid]; decide +kernel]
  subst hid
  refine wpAny_bind (wpAny_isInstance (b := true) ht (by rw [isSubtype_type]; kernel_rfl) (wpAny_pure ?_))
  rw [if_neg (by decide)]
  have e0 : (vs.size : Int) - 1 = (vs.size : Int) - 1 - ((0 : Nat) : Int) := by omega
  rw [e0] at hit
  refine wpAny_pure ⟨plainId_quiet F.plain_extend_loop _, codeAny_extend_loopS W hn S out res vs.size 0 _ _ _ rfl (Nat.zero_le _) ⟨Nat.zero_le _, hit, hl⟩ hS (ItemsOf.nil _) fun z acc c' mv hz hi => ?_⟩
  rw [Moved.eq_with mv]
  exact k z.heap z.toks acc c' (fun b o b1 b2 e => mv.heap b o (by simp [b1, b2]) e) hz hi
theorem list_init_rev {R : Result → Shared → Prop} {it l S : Addr} {vs : Array Value} (hh : Ar.handled = none) (hit : st.heap.IsRevIter it l ((vs.size : Int) - 1)) (hl : st.heap.IsList l vs) (n1 : l ≠ it) (n2 : S ≠ it) (n3 : S ≠ l) (hn : vs.size ≤ sizeLine)
    (hS : st.heap.get? S = some { cls := .type "list", data := .seq #[] })
    (k : ∀ (h' : Heap) (tk : Nat) (acc : Array Value) (c' : Nat), (∀ b o, b ≠ S → b ≠ it → st.heap.get? b = some o → h'.get? b = some o) → h'.get? S = some { cls := .type "list", dict := none, data := .seq acc c', slots := #[] } →
      ItemsOf (fun i v => vs[vs.size - 1 - i]? = some v) acc vs.size → R (.ok (.ret .none)) { st with heap := h', toks := tk }) :
    wpAny (model pr wd) Ar.in1 (Builtin.«list.__init__» ⟨[.ref S, .ref it], []⟩) (fun fin z => match fin with | .done f => R (.ok f) z | .again c' => c'.quiet = true ∧ codeAny (model pr wd) Ar c' R z) (fun e z => R (.error e) z) st := by
  show wpAny _ _ (Builtin.List.listItems (.ref S) >>= fun old => Builtin.List.listUpdate (.ref S) (fun _ => #[]) >>= fun _ => letGo old.toList.reverse >>= fun _ => Builtin.List.listExtendWith (.ref S) (.ref it) .none) _ _ st
  refine wpAny_bind ?_
  unfold Builtin.List.listItems
  refine wpAny_bind (wpAny_seqItems hS rfl (wpAny_pure (wpAny_bind ?_)))
  show wpAny _ _ (updateSeq S fun _ => #[]) _ _ _
  have kept : ∀ b o, b ≠ S → st.heap.get? b = some o → (st.heap.update S (Obj.mapSeq fun _ => (#[] : Array Value))).get? b = some o := fun b o hb e => (Heap.get?_update_other _ _ (Ne.symm hb)).trans e
  refine wpAny_updateSeq hS rfl (wpAny_bind (wpAny_letGo ?_))
  exact ext_rev hh (hit.at fun o e => kept it o (Ne.symm n2) e) (hl.at fun o e => kept l o (Ne.symm n3) e) n1 n2 n3 hn .none _ (Heap.get?_update_self (Obj.mapSeq fun _ => (#[] : Array Value)) hS rfl) fun h' tk acc c' q => k h' tk acc c' fun b o b1 b2 e => q b o b1 b2 (kept b o b1 e)
theorem call_list_rev {Q : Value → Shared → Prop} {it l : Addr} {vs : Array Value} (hh : Ar.handled = none) (hit : st.heap.IsRevIter it l ((vs.size : Int) - 1)) (hl : st.heap.IsList l vs) (n1 : l ≠ it) (hn : vs.size ≤ sizeLine)
    (k : ∀ (h' : Heap) (tk : Nat) (acc : Array Value) (c' : Nat), (∀ b o, b ≠ it → st.heap.get? b = some o → h'.get? b = some o) → h'.get? st.heap.objs.size = some { cls := .type "list", dict := none, data := .seq acc c', slots := #[] } →
      ItemsOf (fun i v => vs[vs.size - 1 - i]? = some v) acc vs.size → Q (.ref st.heap.objs.size) { st with heap := h', toks := tk }) : wpAny (model pr wd) Ar (call (.type "list") [.ref it]) Q Er st := by
  obtain ⟨oi, hoi, _⟩ := id hit
  obtain ⟨ol, hol, _⟩ := id hl
  refine callType_codes (Q₁ := fun u z => u = .ref st.heap.objs.size ∧ z = { st with heap := st.heap.push { cls := .type "list", data := .seq #[] } }) F.called_list (F.typeCall_list_1 _) F.entry_list_init (code_list_new _ ⟨rfl, rfl⟩) ?_
  rintro u z ⟨rfl, rfl⟩
  have hS : (st.heap.push { cls := .type "list", data := .seq #[] }).get? st.heap.objs.size = some { cls := .type "list", data := .seq #[] } := Heap.get?_push_size _ rfl
  refine ⟨⟨_, hS, rfl⟩, F.args_list_init_2 _ _, list_init_rev (Ar := Ar.in1) (it := it) (l := l) (vs := vs) hh (hit.at fun o e => Heap.get?_push_of_some _ e) (hl.push _) n1 (Nat.ne_of_gt (Heap.lt_size hoi)) (Nat.ne_of_gt (Heap.lt_size hol)) hn hS fun h' tk acc c' q hz hi => ⟨rfl, ?_⟩⟩
  exact k h' tk acc c' (fun b o hb e => q b o (Nat.ne_of_lt (Heap.lt_size e)) hb (Heap.get?_push_of_some _ e)) hz hi
end
/-- list(reversed(e)), e a list -/
def tLstRev (K : PySem.W.Frag) (te : TE) : TE := fun σ H Q => te σ H fun x H1 => ∃ (a : Addr) (xs : List V), x = .ref a ∧ SqL K H1 a xs ∧ ∀ p, H1 p = none → Q (.ref p) (upd H1 p (.lst xs.reverse))
section
variable {X : Cx}
theorem pe_lstRev {e : Expr} {te : TE} {q1 q2 c1 c2 : Pos} (hc : X.calm = true) (g1 : Gl X "list") (m1 : X.mg "list" = none) (g2 : Gl X "reversed") (m2 : X.mg "reversed" = none) (he : PE X e te)
    (h1 : starEach [e] X.env = (false, eval e X.env) :: starEach [] X.env := by rfl)
    (h2 : starEach [.Call (.Name "reversed" q2) [e] [] c2] X.env = (false, eval (.Call (.Name "reversed" q2) [e] [] c2) X.env) :: starEach [] X.env := by rfl) :
    PE X (.Call (.Name "list" q1) [.Call (.Name "reversed" q2) [e] [] c2] [] c1) (tLstRev X.K te) := by
  refine ⟨fun pins s σ H Q I h => ?_⟩
  refine Call_ (ld_blt I g1 m1 boot_list (PyProof.Rows.callWith_type1 (args_cons ?_ h2) h2 rfl))
  refine Call_ (ld_blt I g2 m2 PyProof.Rows.boot_reversed (PyProof.Rows.callWith_type1 (args_cons ?_ h1) h1 rfl))
  refine thn (he.run pins s σ H _ I h) fun u s1 ⟨v, H1, I1, r1, a, xs, ev, hq, q⟩ => args_nil ?_
  subst ev
  obtain rfl : u = Value.ref a := r1
  obtain ⟨its, rv, pl, hz⟩ := I1.list hq
  have il := pl.isList
  obtain ⟨ol, hol, _⟩ := id il
  refine call_reversed_list il (args_nil ?_)
  have I2 : Inv X pins σ H1 { s1 with heap := s1.heap.push (revObj a ((its.toArray.size : Int) - 1)) } := I1.kept (t' := s1.toks) fun b o e => Heap.get?_push_of_some _ e
  obtain ⟨f0, f1, f2, f3, f4, f5⟩ := I1.fpOk (H' := H1) (b := s1.heap.objs.size) (Nat.le_refl _) (I1.hok.fresh (Nat.le_refl _))
  have small : its.toArray.size ≤ sizeLine := by rw [List.size_toArray, ← rv.length]; exact hz
  refine call_list_rev (st := { s1 with heap := s1.heap.push (revObj a ((its.toArray.size : Int) - 1)) }) (it := s1.heap.objs.size) (l := a) (vs := its.toArray) (I1.ok.hd hc) ⟨_, Heap.get?_push_size _ rfl, rfl, rfl⟩ (il.push _) (Nat.ne_of_lt (Heap.lt_size hol)) small fun h' tk acc c' hk hz' hi => ?_
  have all : ∀ b o, s1.heap.get? b = some o → h'.get? b = some o := fun b o e => hk b o (Nat.ne_of_lt (Heap.lt_size e)) (Heap.get?_push_of_some _ e)
  have lo : s1.heap.objs.size ≤ (s1.heap.push (revObj a ((its.toArray.size : Int) - 1))).objs.size := by
    show s1.heap.objs.size ≤ (s1.heap.objs.push _).size
    rw [Array.size_push]; omega
  exact ⟨.ref _, upd H1 _ (.lst xs.reverse), I1.laid (t' := tk) all lo (show ObjOk X.prog X.w _ _ _ (.lst xs.reverse) from ⟨by rw [List.length_reverse]; exact hz, acc.toList, c', vals_rev rv hi, by rw [Array.toArray_toList]; exact hz'⟩), rfl, q _ (I1.hok.fresh lo)⟩
end
end Ssb

/-! Values of any form: there is a datum that stands there. -/
namespace Ssb
open PySem PySem.Spec PyProof.Rows L2
open Evl (Ex Ev EvT EvL EvA EvU)
def Gv (m n : Nat) (Z : Addr → Prop) (H : Hp) (v : V) : Prop := ∃ g, Rp H m n Z g v
theorem pair_choose {α β : Type} {F : α → β → Prop} : ∀ {xs : List β}, (∀ x ∈ xs, ∃ d, F d x) → ∃ l, Paired F l xs
  | [], _ => ⟨[], .nil⟩
  | x :: xs, h => by
    obtain ⟨d, hd⟩ := h x List.mem_cons_self
    obtain ⟨l, hl⟩ := pair_choose fun y hy => h y (List.mem_cons_of_mem _ hy)
    exact ⟨d :: l, .cons hd hl⟩
theorem pair_memB {α β : Type} {F : α → β → Prop} {l : List α} {k : List β} (p : Paired F l k) : ∀ y ∈ k, ∃ x ∈ l, F x y := fun y hy => by
  obtain ⟨i, hi, e⟩ := List.mem_iff_getElem.mp hy
  obtain ⟨a, ha, h⟩ := pair_back p (i := i) (b := y) (by rw [← e]; exact List.getElem?_eq_getElem hi)
  exact ⟨a, List.mem_of_getElem? ha, h⟩
section
variable {H H' : Hp} {m m' n n' : Nat} {Z Z' : Addr → Prop} {v : V}
theorem gv_ex (e : Ex H H') (h : Gv m n Z H v) : Gv m n Z H' v := h.imp fun _ r => rp_ex e r
theorem gv_up (hn : n ≤ n') (hm : m ≤ m') (hz : ∀ b, Z b → Z' b) (h : Gv m n Z H v) : Gv m' n' Z' H v := h.imp fun _ r => rp_up hn hm (rp_S hz r)
theorem gv_ne {a : Addr} (ha : H a = none) (h : Gv m n Z H v) : Gv m n (fun b => Z b ∧ b ≠ a) H v := h.imp fun _ r => rp_S (fun b hb => ⟨hb.1, fun z => hb.2 (by rw [z]; exact ha)⟩) (rp_dom r)
theorem gv_upd {a : Addr} {o u : HO} (ha : H a = some o) (no : ∀ xs, o ≠ .tup xs) (hS : ∀ b, Z b → b ≠ a) (h : Gv m n Z H v) : Gv m n Z (upd H a u) v := h.imp fun _ r => rp_upd ha no hS r
theorem gv_non : Gv m (n + 1) Z H .non := ⟨.non, rfl⟩
theorem gv_bl {b : Bool} : Gv m (n + 1) Z H (.bl b) := ⟨.bl b, rfl⟩
theorem gv_int {i : Int} : Gv m (n + 1) Z H (.int i) := ⟨.int i, rfl⟩
theorem gv_str {s : Str} (h : s.length ≤ m) : Gv m (n + 1) Z H (.str s) := ⟨.str s, rfl, h⟩
theorem gv_lst {a : Addr} {xs : List V} (ha : H a = some (.lst xs)) (za : Z a) (hl : xs.length ≤ m) (h : ∀ x ∈ xs, Gv m n Z H x) : Gv m (n + 1) Z H (.ref a) := by
  obtain ⟨l, hp⟩ := pair_choose h
  exact ⟨.lst l, a, xs, rfl, za, ha, by rw [pair_len hp]; exact hl, hp⟩
theorem gv_tup {a : Addr} {xs : List V} (ha : H a = some (.tup xs)) (hl : xs.length ≤ m) (h : ∀ x ∈ xs, Gv m n Z H x) : Gv m (n + 1) Z H (.ref a) := by
  obtain ⟨l, hp⟩ := pair_choose h
  exact ⟨.tup l, a, xs, rfl, ha, by rw [pair_len hp]; exact hl, hp⟩
/-- the entries of a dict of such values -/
def Ge (m n : Nat) (Z : Addr → Prop) (H : Hp) (es : List (Key × V)) : Prop := (es.map fun e : Key × V => e.1).Nodup ∧ ∀ e ∈ es, kLen e.1 ≤ m ∧ Gv m n Z H e.2
theorem gv_dic {a : Addr} {es : List (Key × V)} (ha : H a = some (.dK es)) (za : Z a) (hl : es.length ≤ m) (h : Ge m n (fun b => Z b ∧ b ≠ a) H es) : Gv m (n + 1) Z H (.ref a) := by
  obtain ⟨l, hp⟩ := pair_choose (F := fun (q : KG) (e : Key × V) => e.1 = q.1 ∧ Rp H m n (fun b => Z b ∧ b ≠ a) q.2 e.2) (xs := es) fun e he => by
    obtain ⟨g, hg⟩ := (h.2 e he).2
    exact ⟨(e.1, g), rfl, hg⟩
  have ek := pair_keysG hp
  refine ⟨.dic l, a, es, rfl, za, ha, by rw [pair_len hp]; exact hl, ⟨by rw [← ek]; exact h.1, fun q hq => ?_⟩, hp⟩
  obtain ⟨e, he, h1, _⟩ : ∃ e ∈ es, e.1 = q.1 ∧ Rp H m n (fun b => Z b ∧ b ≠ a) q.2 e.2 := by
    obtain ⟨t, ht, e⟩ := List.mem_iff_getElem.mp hq
    obtain ⟨b, hb, h⟩ := pair_at hp (i := t) (a := q) (by rw [← e]; exact List.getElem?_eq_getElem ht)
    exact ⟨b, List.mem_of_getElem? hb, h⟩
  rw [← h1]; exact (h.2 e he).1
theorem ge_put {es : List (Key × V)} {k : Key} (h : Ge m n Z H es) (hk : kLen k ≤ m) (hv : Gv m n Z H v) : Ge m n Z H (putK es k v) ∧ (putK es k v).length ≤ es.length + 1 := by
  unfold putK
  by_cases c : (es.any fun kv => decide (kv.1 = k)) = true
  · rw [if_pos c]
    have ek : ((es.map fun kv => if kv.1 = k then (kv.1, v) else kv).map fun e : Key × V => e.1) = es.map fun e : Key × V => e.1 := by
      rw [List.map_map]
      refine List.map_congr_left fun e _ => ?_
      show (if e.1 = k then (e.1, v) else e).1 = e.1
      split <;> rfl
    refine ⟨⟨by rw [ek]; exact h.1, fun e he => ?_⟩, by rw [List.length_map]; omega⟩
    obtain ⟨e0, h0, rfl⟩ := List.mem_map.mp he
    by_cases ce : e0.1 = k
    · rw [if_pos ce]; exact ⟨by rw [ce]; exact hk, hv⟩
    · rw [if_neg ce]; exact h.2 e0 h0
  · rw [if_neg c]
    refine ⟨⟨?_, fun e he => ?_⟩, by rw [List.length_append]; exact Nat.le_refl _⟩
    · rw [List.map_append]
      refine List.nodup_append.mpr ⟨h.1, by simp, fun a ha b hb => ?_⟩
      obtain ⟨e, he, rfl⟩ := List.mem_map.mp ha
      have hb : b = k := by simpa using hb
      rw [hb]
      intro z
      exact c (List.any_eq_true.mpr ⟨e, he, decide_eq_true z⟩)
    · rcases List.mem_append.mp he with he | he
      · exact h.2 e he
      · rw [List.mem_singleton.mp he]; exact ⟨hk, hv⟩
theorem ge_imp {es : List (Key × V)} (h : Ge m n Z H es) (f : ∀ x, Gv m n Z H x → Gv m' n' Z' H' x) (hm : m ≤ m') : Ge m' n' Z' H' es := ⟨h.1, fun e he => ⟨Nat.le_trans (h.2 e he).1 hm, f _ (h.2 e he).2⟩⟩
end
/-! ### expressions -/
def EvG (te : TE) (σ : L2.St) (H : Hp) (F : Hp → V → Prop) : Prop := ∀ H1, Ex H H1 → ∀ Q : VK, (∀ v H2, Ex H1 H2 → F H2 v → Q v H2) → te σ H1 Q
def EvAG (ta : TA) (σ : L2.St) (H : Hp) (F : Hp → V → Prop) (k : Nat) : Prop := ∀ H1, Ex H H1 → ∀ Q : List V → Hp → Prop, (∀ vs H2, Ex H1 H2 → vs.length = k → (∀ v ∈ vs, F H2 v) → Q vs H2) → ta σ H1 Q
section
variable {σ : L2.St} {H : Hp} {m n k : Nat} {Z : Addr → Prop} {te : TE} {ta : TA} {v : V}
theorem ep_ev (h : Ev te σ H v) (g : Gv m n Z H v) : EvG te σ H (Gv m n Z) := fun H1 e Q q => h H1 e _ fun H2 e2 => q v H2 e2 (gv_ex (e.trans e2) g)
theorem ep_str {x : Str} (h : x.length ≤ m) : EvG (tC (.str x)) σ H (Gv m (n + 1) Z) := ep_ev Evl.ev_c (gv_str h)
theorem ep_up {n' : Nat} (hn : n ≤ n') (h : EvG te σ H (Gv m n Z)) : EvG te σ H (Gv m n' Z) := fun H1 e Q q => h H1 e _ fun v H2 e2 g => q v H2 e2 (gv_up hn (Nat.le_refl _) (fun _ z => z) g)
theorem ap_nil : EvAG tNil σ H (Gv m n Z) 0 := fun H1 e Q q => q [] H1 (Ex.refl _) rfl (fun v hv => nomatch hv)
theorem ap_cons (h : EvG te σ H (Gv m n Z)) (h2 : EvAG ta σ H (Gv m n Z) k) : EvAG (tCons te ta) σ H (Gv m n Z) (k + 1) := fun H1 e Q q =>
  h H1 e _ fun v H2 e2 g => h2 H2 (e.trans e2) _ fun vs H3 e3 hl hv => q (v :: vs) H3 (e2.trans e3) (by rw [List.length_cons, hl]) fun x hx => by
    rcases List.mem_cons.mp hx with rfl | hx
    · exact gv_ex e3 g
    · exact hv x hx
theorem ep_lst (h : EvAG ta σ H (Gv m n Z) k) (hk : k ≤ m) (hk2 : k ≤ 100000) (hz : ∀ a, H a = none → Z a) : EvG (tLst ta) σ H (Gv m (n + 1) Z) := fun H1 e Q q =>
  h H1 e _ fun vs H2 e2 hl hv => ⟨Evl.sz_of (by omega), fun p hp => q (.ref p) _ (e2.trans (Ex.new hp)) (gv_lst upd_same (hz p (Evl.fresh_back (e.trans e2) hp)) (by omega) fun x hx => gv_ex (Ex.new hp) (hv x hx))⟩
theorem ep_tup (h : EvAG ta σ H (Gv m n Z) k) (hk : k ≤ m) (hk2 : k ≤ 100000) : EvG (tTup ta) σ H (Gv m (n + 1) Z) := fun H1 e Q q =>
  h H1 e _ fun vs H2 e2 hl hv => ⟨Evl.sz_of (by omega), fun p hp => q (.ref p) _ (e2.trans (Ex.new hp)) (gv_tup upd_same (by omega) fun x hx => gv_ex (Ex.new hp) (hv x hx))⟩
theorem ep_dnew (hz : ∀ a, H a = none → Z a) : EvG tDNewK σ H (Gv m (n + 1) Z) := fun H1 e Q q =>
  fun p hp => q (.ref p) _ (Ex.new hp) (gv_dic upd_same (hz p (Evl.fresh_back e hp)) (Nat.zero_le _) ⟨List.nodup_nil, fun e he => nomatch he⟩)
theorem ep_d1 {x : Str} (hx : x.length ≤ m) (h1 : 1 ≤ m) (hz : ∀ a, H a = none → Z a) (h : ∀ H1 p, Ex H H1 → H1 p = none → EvG te σ (upd H1 p (.dK [])) (Gv m n (fun b => Z b ∧ b ≠ p))) : EvG (tDisp [(tC (.str x), te)]) σ H (Gv m (n + 1) Z) := fun H1 e Q q => by
  intro p hp
  refine h H1 p e hp _ (Ex.refl _) _ fun v H2 e2 g => ?_
  have hp2 := e2 _ _ upd_same
  refine ⟨hp2, [(Sum.inr x, v)], rfl, (by show 1 ≤ 15; decide), ?_⟩
  refine q (.ref p) _ (Ex.mut ((Ex.new hp).trans e2) hp) (gv_dic upd_same (hz p (Evl.fresh_back e hp)) h1 ⟨by show [(Sum.inr x : Key)].Nodup; simp, fun e he => ?_⟩)
  have he : e = (Sum.inr x, v) := List.mem_singleton.mp he
  rw [he]
  exact ⟨hx, gv_upd hp2 (fun _ z => nomatch z) (fun b z => z.2) g⟩
theorem ep_d2 {x y : Str} (ne : x ≠ y) (hx : x.length ≤ m) (hy : y.length ≤ m) (h1 : 2 ≤ m) (hz : ∀ a, H a = none → Z a) (he : Ev te σ H v) (g : Gv m (n + 1) Z H v) : EvG (tDisp [(tC (.str x), te), (tC (.str y), tDNewK)]) σ H (Gv m (n + 2) Z) := fun H1 e Q q => by
  intro p hp
  refine he _ (e.trans (Ex.new hp)) _ fun H2 e2 => ?_
  intro p2 hp2
  have h2 := e2 _ _ upd_same
  have h3 := Ex.new (o := .dK []) hp2 _ _ h2
  have npp : p2 ≠ p := fun z => by rw [z, h2] at hp2; cases hp2
  have e3 : Ex H1 (upd H2 p2 (.dK [])) := (Ex.new hp).trans (e2.trans (Ex.new hp2))
  refine ⟨h3, [(Sum.inr x, v), (Sum.inr y, .ref p2)], rfl, (by show 2 ≤ 15; decide), ?_⟩
  have em : mergeK [] [((Sum.inr x : Key), v), (Sum.inr y, .ref p2)] = [((Sum.inr x : Key), v), (Sum.inr y, .ref p2)] := by
    show putK (putK [] (Sum.inr x : Key) v) (Sum.inr y) (.ref p2) = _
    rw [putK_new _ (by rfl : valV ([] : List (Key × V)) (Sum.inr x) = none), List.nil_append, putK_new]
    · rfl
    · rw [vV_cons, if_neg fun z => ne (Sum.inr.inj z)]; rfl
  rw [em]
  refine q (.ref p) _ (Ex.mut e3 hp) (gv_dic upd_same (hz p (Evl.fresh_back e hp)) h1 ⟨by simp [ne], fun en hen => ?_⟩)
  rcases List.mem_cons.mp hen with rfl | hen
  · exact ⟨hx, gv_upd h3 (fun _ z => nomatch z) (fun b z => z.2) (gv_ex e3 (gv_ne hp (gv_ex e g)))⟩
  · have hen : en = (Sum.inr y, .ref p2) := List.mem_singleton.mp hen
    rw [hen]
    refine ⟨hy, gv_upd h3 (fun _ z => nomatch z) (fun b z => z.2) (gv_dic upd_same ⟨hz p2 (Evl.fresh_back (e.trans ((Ex.new hp).trans e2)) hp2), npp⟩ (Nat.zero_le _) ⟨List.nodup_nil, fun e he => nomatch he⟩)⟩
theorem at_mem {xs : List V} {i : Int} (h0 : 0 ≤ i) (h1 : i < (xs.length : Int)) : ∃ v, atI xs i = some v ∧ v ∈ xs := by
  obtain ⟨j, rfl⟩ := Int.eq_ofNat_of_zero_le h0
  have hj : j < xs.length := by omega
  exact ⟨xs[j], atI_nat (List.getElem?_eq_getElem hj), List.getElem_mem hj⟩
end
end Ssb

namespace Pk
open PySem PySem.Spec PyProof.Rows L2 Ssb
/-- the i-th statement of the text -/
def topS (i : Nat) : Stmt := PySem.Challenge.pw_statestay_k02_shape_refused.main.body.getD i (.Pass ⟨0, 0, 0, 0⟩)
abbrev s_InvalidShape_init : Stmt := inClass (topS 2) 0
theorem sc_InvalidShape_init : FnScope ["self", "part"] ["self", "part"] (defScope s_InvalidShape_init) := ⟨rfl, rfl, rfl, by decide +kernel, rfl, by decide +kernel, by decide +kernel⟩
abbrev s_is_word : Stmt := topS 6
theorem sc_is_word : FnScope ["value", "letter"] ["value"] (defScope s_is_word) := ⟨rfl, rfl, rfl, by decide +kernel, rfl, by decide +kernel, by decide +kernel⟩
abbrev s_are_words : Stmt := topS 7
theorem sc_are_words : FnScope ["values", "least", "most", "value"] ["values", "least", "most"] (defScope s_are_words) := ⟨rfl, rfl, rfl, by decide +kernel, rfl, by decide +kernel, by decide +kernel⟩
abbrev s_has_names : Stmt := topS 8
theorem sc_has_names : FnScope ["value", "names", "name"] ["value", "names"] (defScope s_has_names) := ⟨rfl, rfl, rfl, by decide +kernel, rfl, by decide +kernel, by decide +kernel⟩
abbrev s_is_named : Stmt := topS 9
theorem sc_is_named : FnScope ["value", "most", "key"] ["value", "most"] (defScope s_is_named) := ⟨rfl, rfl, rfl, by decide +kernel, rfl, by decide +kernel, by decide +kernel⟩
abbrev s_wrong_part : Stmt := topS 11
theorem sc_wrong_part : FnScope ["flags", "lists", "rows", "name", "parent", "fields"] ["flags", "lists"] (defScope s_wrong_part) := ⟨rfl, rfl, rfl, by decide +kernel, rfl, by decide +kernel, by decide +kernel⟩
abbrev s_are_lists : Stmt := topS 12
theorem sc_are_lists : FnScope ["lists", "outer", "inner"] ["lists"] (defScope s_are_lists) := ⟨rfl, rfl, rfl, by decide +kernel, rfl, by decide +kernel, by decide +kernel⟩
abbrev s_are_list_shapes : Stmt := topS 13
theorem sc_are_list_shapes : FnScope ["lists", "most", "one"] ["lists", "most"] (defScope s_are_list_shapes) := ⟨rfl, rfl, rfl, by decide +kernel, rfl, by decide +kernel, by decide +kernel⟩
abbrev s_list_rows : Stmt := topS 14
theorem sc_list_rows : FnScope ["lists", "rows", "name", "outer", "deep", "inner"] ["lists"] (defScope s_list_rows) := ⟨rfl, rfl, rfl, by decide +kernel, rfl, by decide +kernel, by decide +kernel⟩
abbrev s_are_fields : Stmt := topS 15
theorem sc_are_fields : FnScope ["fields", "words"] ["fields"] (defScope s_are_fields) := ⟨rfl, rfl, rfl, by decide +kernel, rfl, by decide +kernel, by decide +kernel⟩
abbrev s_Shape_init : Stmt := inClass (topS 17) 0
theorem sc_Shape_init : FnScope ["self", "flags", "lists", "part", "name", "parent", "fields"] ["self", "flags", "lists"] (defScope s_Shape_init) := ⟨rfl, rfl, rfl, by decide +kernel, rfl, by decide +kernel, by decide +kernel⟩
abbrev s__law_stream : Stmt := topS 19
theorem sc__law_stream : FnScope ["_law_script", "_law_cells", "_law_cell"] ["_law_script"] (defScope s__law_stream) := ⟨rfl, rfl, rfl, by decide +kernel, rfl, by decide +kernel, by decide +kernel⟩
abbrev s__law_draw : Stmt := topS 20
theorem sc__law_draw : FnScope ["_law_stream_here", "_law_many", "_law_cells", "_law_step", "_law_at", "_law_cell", "_law_number"] ["_law_stream_here", "_law_many"] (defScope s__law_draw) := ⟨rfl, rfl, rfl, by decide +kernel, rfl, by decide +kernel, by decide +kernel⟩
abbrev s__law_same : Stmt := topS 21
theorem sc__law_same : FnScope ["_law_actual", "_law_expected", "_law_key", "_law_k"] ["_law_actual", "_law_expected"] (defScope s__law_same) := ⟨rfl, rfl, rfl, by decide +kernel, rfl, by decide +kernel, by decide +kernel⟩
abbrev s__law_copy : Stmt := topS 22
theorem sc__law_copy : FnScope ["_law_value", "_law_result", "_law_key", "_law_part"] ["_law_value"] (defScope s__law_copy) := ⟨rfl, rfl, rfl, by decide +kernel, rfl, by decide +kernel, by decide +kernel⟩
abbrev s__law_word : Stmt := topS 23
theorem sc__law_word : FnScope ["_law_stream_here", "_law_letters", "_law_size", "_law_number", "_law_word_here", "_law_k"] ["_law_stream_here"] (defScope s__law_word) := ⟨rfl, rfl, rfl, by decide +kernel, rfl, by decide +kernel, by decide +kernel⟩
abbrev s__law_names : Stmt := topS 24
theorem sc__law_names : FnScope ["_law_stream_here", "_law_many", "_law_taken", "_law_names_here", "_law_k", "_law_word_here", "_law_spares", "_law_spare"] ["_law_stream_here", "_law_many", "_law_taken"] (defScope s__law_names) := ⟨rfl, rfl, rfl, by decide +kernel, rfl, by decide +kernel, by decide +kernel⟩
abbrev s__law_fields : Stmt := topS 25
theorem sc__law_fields : FnScope ["_law_stream_here", "_law_most", "_law_fields_here", "_law_name"] ["_law_stream_here", "_law_most"] (defScope s__law_fields) := ⟨rfl, rfl, rfl, by decide +kernel, rfl, by decide +kernel, by decide +kernel⟩
abbrev s__law_lists : Stmt := topS 26
theorem sc__law_lists : FnScope ["_law_stream_here", "_law_most", "_law_names_here", "_law_lists_here", "_law_k", "_law_inner"] ["_law_stream_here", "_law_most"] (defScope s__law_lists) := ⟨rfl, rfl, rfl, by decide +kernel, rfl, by decide +kernel, by decide +kernel⟩
abbrev s__law_about : Stmt := topS 27
theorem sc__law_about : FnScope ["_law_lists_here", "_law_about_here", "_law_name", "_law_inner"] ["_law_lists_here"] (defScope s__law_about) := ⟨rfl, rfl, rfl, by decide +kernel, rfl, by decide +kernel, by decide +kernel⟩
abbrev s__law_odd : Stmt := topS 28
theorem sc__law_odd : FnScope ["_law_stream_here", "_law_odd_here", "_law_at", "_law_value", "_law_k"] ["_law_stream_here"] (defScope s__law_odd) := ⟨rfl, rfl, rfl, by decide +kernel, rfl, by decide +kernel, by decide +kernel⟩
abbrev s__law_resized : Stmt := topS 29
theorem sc__law_resized : FnScope ["_law_stream_here", "_law_parts", "_law_at", "_law_way"] ["_law_stream_here", "_law_parts"] (defScope s__law_resized) := ⟨rfl, rfl, rfl, by decide +kernel, rfl, by decide +kernel, by decide +kernel⟩
abbrev s__law_changed : Stmt := topS 30
theorem sc__law_changed : FnScope ["_law_stream_here", "_law_value", "_law_way", "_law_result", "_law_left", "_law_k", "_law_key", "_law_parts"] ["_law_stream_here", "_law_value"] (defScope s__law_changed) := ⟨rfl, rfl, rfl, by decide +kernel, rfl, by decide +kernel, by decide +kernel⟩
abbrev s__law_spoil : Stmt := topS 31
theorem sc__law_spoil : FnScope ["_law_stream_here", "_law_value", "_law_at", "_law_result", "_law_k", "_law_key", "_law_parts"] ["_law_stream_here", "_law_value"] (defScope s__law_spoil) := ⟨rfl, rfl, rfl, by decide +kernel, rfl, by decide +kernel, by decide +kernel⟩
abbrev s__law_is_word : Stmt := topS 32
theorem sc__law_is_word : FnScope ["_law_value", "_law_sign"] ["_law_value"] (defScope s__law_is_word) := ⟨rfl, rfl, rfl, by decide +kernel, rfl, by decide +kernel, by decide +kernel⟩
abbrev s__law_are_words : Stmt := topS 33
theorem sc__law_are_words : FnScope ["_law_value", "_law_least", "_law_most", "_law_k"] ["_law_value", "_law_least", "_law_most"] (defScope s__law_are_words) := ⟨rfl, rfl, rfl, by decide +kernel, rfl, by decide +kernel, by decide +kernel⟩
abbrev s__law_listed : Stmt := topS 34
theorem sc__law_listed : FnScope ["_law_lists_here", "_law_most", "_law_deep", "_law_name", "_law_described"] ["_law_lists_here", "_law_most", "_law_deep"] (defScope s__law_listed) := ⟨rfl, rfl, rfl, by decide +kernel, rfl, by decide +kernel, by decide +kernel⟩
abbrev s__law_fields_fit : Stmt := topS 35
theorem sc__law_fields_fit : FnScope ["_law_fields_here", "_law_name"] ["_law_fields_here"] (defScope s__law_fields_fit) := ⟨rfl, rfl, rfl, by decide +kernel, rfl, by decide +kernel, by decide +kernel⟩
abbrev s__law_wrong : Stmt := topS 36
theorem sc__law_wrong : FnScope ["_law_flags", "_law_lists_here", "_law_names_here", "_law_name", "_law_inner", "_law_k"] ["_law_flags", "_law_lists_here"] (defScope s__law_wrong) := ⟨rfl, rfl, rfl, by decide +kernel, rfl, by decide +kernel, by decide +kernel⟩
abbrev s__law_renamed : Stmt := topS 37
theorem sc__law_renamed : FnScope ["_law_stream_here", "_law_lists_here", "_law_names_here", "_law_result", "_law_name", "_law_inside", "_law_inner"] ["_law_stream_here", "_law_lists_here"] (defScope s__law_renamed) := ⟨rfl, rfl, rfl, by decide +kernel, rfl, by decide +kernel, by decide +kernel⟩
abbrev s_law : Stmt := topS 38
theorem sc_law : FnScope ["_law_script", "_law_stream_here", "_law_times", "_law_rename", "_law_flags", "_law_lists_here", "_law_both", "_law_k", "_law_at", "_law_due", "_law_passed", "_law_made", "_law_found", "error"] ["_law_script"] (defScope s_law) := ⟨rfl, rfl, rfl, by decide +kernel, rfl, by decide +kernel, by decide +kernel⟩
/-- what the module says of built-ins, constants and classes -/
structure Txt (K : PySem.W.Frag) (mg : Str → Option Value) (C_Shape : Addr) (C_InvalidShape : Addr) (C_InvalidData : Addr) (C_StayError : Addr) : Prop where
  all : mg "all" = none
  enumerate : mg "enumerate" = none
  int : mg "int" = none
  str : mg "str" = none
  bool : mg "bool" = none
  isinstance : mg "isinstance" = none
  len : mg "len" = none
  list : mg "list" = none
  min : mg "min" = none
  range : mg "range" = none
  reversed : mg "reversed" = none
  sorted : mg "sorted" = none
  tuple : mg "tuple" = none
  set : mg "set" = none
  dict : mg "dict" = none
  cl_Shape : Cls K C_Shape
  mk_Shape : PySem.W.makesIn K C_Shape = true
  kp_Shape : PySem.W.keepIn K (.ref C_Shape) = true
  at_Shape : mg "Shape" = some (.ref C_Shape)
  kl_Shape : PySem.W.findIn K (.ref C_Shape) "__class__" = some (some (.builtin "object.__class__"))
  km_Shape : PySem.W.mroIn K C_Shape (.type "object") = some true
  se_Shape : PySem.W.kitOne K (.ref C_Shape) (.ref C_Shape) = some true
  no_Shape_flags : NoAttr K C_Shape "flags"
  no_Shape_table : NoAttr K C_Shape "table"
  ox_InvalidShape : OexE K C_InvalidShape
  at_InvalidShape : mg "InvalidShape" = some (.ref C_InvalidShape)
  xk_InvalidShape : ExK K C_InvalidShape
  own_InvalidShape : PySem.W.exmOne K (.ref C_InvalidShape) (.ref C_InvalidShape) = some true
  no_InvalidShape_part : PySem.W.findIn K (.ref C_InvalidShape) "part" = some none
  is_InvalidShape_InvalidData : PySem.W.kitOne K (.ref C_InvalidShape) (.ref C_InvalidData) = some false
  is_InvalidShape_StayError : PySem.W.kitOne K (.ref C_InvalidShape) (.ref C_StayError) = some true
  ex_InvalidShape_InvalidData : PySem.W.exmOne K (.ref C_InvalidShape) (.ref C_InvalidData) = some false
  ex_InvalidShape_StayError : PySem.W.exmOne K (.ref C_InvalidShape) (.ref C_StayError) = some true
  se_InvalidShape : PySem.W.kitOne K (.ref C_InvalidShape) (.ref C_InvalidShape) = some true
  at_InvalidData : mg "InvalidData" = some (.ref C_InvalidData)
  kp_InvalidData : PySem.W.keepIn K (.ref C_InvalidData) = true
  at_StayError : mg "StayError" = some (.ref C_StayError)
  kp_StayError : PySem.W.keepIn K (.ref C_StayError) = true
/-- a def as it stands -/
def Here (K : PySem.W.Frag) (mg : Str → Option Value) (nm : Str) (st : Stmt) : Prop := ∃ f fd, mg nm = some (.ref f) ∧ Fun K nm nm st f fd ∧ PySem.W.keepIn K (.ref f) = true
def HereM (K : PySem.W.Frag) (C : Addr) (nm qual : Str) (st : Stmt) : Prop := ∃ f fd, Fun K nm qual st f fd ∧ PySem.W.findIn K (.ref C) nm = some (some (.ref f)) ∧ PySem.W.isFn K (.ref f) = true ∧ PySem.W.keepIn K (.ref f) = true
structure Prg (K : PySem.W.Frag) (mg : Str → Option Value) (C_Shape : Addr) (C_InvalidShape : Addr) (C_InvalidData : Addr) (C_StayError : Addr) : Prop where
  InvalidShape_init : HereM K C_InvalidShape "__init__" "InvalidShape.__init__" s_InvalidShape_init
  is_word : Here K mg "is_word" s_is_word
  are_words : Here K mg "are_words" s_are_words
  has_names : Here K mg "has_names" s_has_names
  is_named : Here K mg "is_named" s_is_named
  wrong_part : Here K mg "wrong_part" s_wrong_part
  are_lists : Here K mg "are_lists" s_are_lists
  are_list_shapes : Here K mg "are_list_shapes" s_are_list_shapes
  list_rows : Here K mg "list_rows" s_list_rows
  are_fields : Here K mg "are_fields" s_are_fields
  Shape_init : HereM K C_Shape "__init__" "Shape.__init__" s_Shape_init
  _law_stream : Here K mg "_law_stream" s__law_stream
  _law_draw : Here K mg "_law_draw" s__law_draw
  _law_same : Here K mg "_law_same" s__law_same
  _law_copy : Here K mg "_law_copy" s__law_copy
  _law_word : Here K mg "_law_word" s__law_word
  _law_names : Here K mg "_law_names" s__law_names
  _law_fields : Here K mg "_law_fields" s__law_fields
  _law_lists : Here K mg "_law_lists" s__law_lists
  _law_about : Here K mg "_law_about" s__law_about
  _law_odd : Here K mg "_law_odd" s__law_odd
  _law_resized : Here K mg "_law_resized" s__law_resized
  _law_changed : Here K mg "_law_changed" s__law_changed
  _law_spoil : Here K mg "_law_spoil" s__law_spoil
  _law_is_word : Here K mg "_law_is_word" s__law_is_word
  _law_are_words : Here K mg "_law_are_words" s__law_are_words
  _law_listed : Here K mg "_law_listed" s__law_listed
  _law_fields_fit : Here K mg "_law_fields_fit" s__law_fields_fit
  _law_wrong : Here K mg "_law_wrong" s__law_wrong
  _law_renamed : Here K mg "_law_renamed" s__law_renamed
  law : Here K mg "law" s_law
theorem here_mk {K : PySem.W.Frag} {h : Heap} {mg : Str → Option Value} (X : K.In h) (G : h.Ns mainGlobals mg) {nm : Str} {st : Stmt} {f : Addr} {oc : Value} {od an : Option Addr} {sl : Array (Option Value)} {kV dc pm cd ct : Value}
    (a : PySem.W.nsIn K mainGlobals nm = some (some (.ref f))) (l : K.lookup f = some ⟨oc, od, .func (PySem.W.fnOf nm nm (defArgs st) (defBody st) (defScope st) .none kV dc pm an cd ct), sl⟩) (c : PySem.W.codeIn K cd nm = true) (k : PySem.W.keepIn K (.ref f) = true) : Here K mg nm st :=
  ⟨f, _, PySem.W.mg_of X G a, fun_mk (st := st) l c k, k⟩
theorem hereM_mk {K : PySem.W.Frag} {C : Addr} {nm qual : Str} {st : Stmt} {f : Addr} {oc : Value} {od an : Option Addr} {sl : Array (Option Value)} {kV dc pm cd ct : Value}
    (a : PySem.W.findIn K (.ref C) nm = some (some (.ref f))) (i : PySem.W.isFn K (.ref f) = true) (l : K.lookup f = some ⟨oc, od, .func (PySem.W.fnOf nm qual (defArgs st) (defBody st) (defScope st) .none kV dc pm an cd ct), sl⟩) (c : PySem.W.codeIn K cd qual = true) (k : PySem.W.keepIn K (.ref f) = true) : HereM K C nm qual st :=
  ⟨f, _, fun_mk (st := st) l c k, a, i, k⟩
def spLaw (K : PySem.W.Frag) : Sp := fun vs H Q _ => ∃ (a : Addr) (ns : List Int), vs = [.ref a] ∧ SqL K H a (ns.map V.int) ∧ ns.length ≤ 63 ∧ ∀ H', Q (.bl true) H'

end Pk

namespace Pk
open PySem PySem.Spec PyProof.Rows L2 Ssb
open Evl (Ex Ev EvT EvL EvA EvU)
/-! ### what the checks say of any datum -/
def wdS (s : Str) : Bool := (decide (1 ≤ s.length) && decide (s.length ≤ 8)) && s.cps.toList.all fun c => decide (97 ≤ c) && decide (c ≤ 122)
def wdG : G → Bool
  | .str s => wdS s
  | _ => false
def wdK : Key → Bool
  | .inr s => wdS s
  | .inl _ => false
theorem wdG_k (k : Key) : wdG (kG k) = wdK k := by cases k <;> rfl
def strG : G → Option Str
  | .str s => some s
  | _ => none
def strsG (l : List G) : List Str := l.filterMap strG
def wordsL (l : List G) (lo hi : Int) : Bool := (decide (lo ≤ (l.length : Int)) && decide ((l.length : Int) ≤ hi)) && (l.all wdG && decide (strsG l).Nodup)
def itsG : G → Option (List G)
  | .lst l => some l
  | .tup l => some l
  | _ => none
def dicG : G → Option (List KG)
  | .dic l => some l
  | _ => none
def wordsG (g : G) (lo hi : Int) : Bool := ((itsG g).map fun l => wordsL l lo hi).getD false
def hasN (g : G) (ns : List Str) : Bool := ((dicG g).map fun l => decide (l.length = ns.length) && ns.all fun n => (lkG l (Sum.inr n)).isSome).getD false
def named (g : G) (most : Int) : Bool := ((dicG g).map fun l => decide ((l.length : Int) ≤ most) && l.all fun p => wdK p.1).getD false
theorem le_dec {a b : Nat} : (!decide ([b] < [a])) = decide (a ≤ b) := by
  by_cases h : a ≤ b
  · rw [decide_eq_true h]
    have : ¬ ([b] < [a]) := fun z => by
      rcases List.cons_lt_cons_iff.mp z with z | z
      · omega
      · exact absurd z.2 (by simp)
    simp [this]
  · rw [decide_eq_false h]
    have : [b] < [a] := List.cons_lt_cons_iff.mpr (.inl (by omega))
    simp [this]
theorem words_strs : ∀ {l : List G}, l.all wdG = true → l = (strsG l).map .str
  | [], _ => rfl
  | g :: l, h => by
    simp only [List.all_cons, Bool.and_eq_true] at h
    have ih := words_strs h.2
    cases g with
    | str s => show _ = G.str s :: (strsG l).map .str; rw [← ih]
    | _ => exact absurd h.1 (by simp [wdG])
theorem met_len_eq {l : List Str} : decide ((met [] l).length = l.length) = decide l.Nodup := by
  by_cases h : l.Nodup
  · rw [decide_eq_true h, met_nodup l [] (by simpa using h)]; simp
  · rw [decide_eq_false h]
    refine decide_eq_false fun e => h ?_
    have key : ∀ (l acc : List Str), acc.Nodup → (met acc l).length = acc.length + l.length → (acc ++ l).Nodup := by
      intro l
      induction l with
      | nil => intro acc ha _; simpa using ha
      | cons x l ih =>
        intro acc ha hl
        have e1 : met acc (x :: l) = met (put1 acc x) l := rfl
        rw [e1] at hl
        have b1 := met_len l (put1 acc x)
        have b2 := put1_len acc x
        simp only [List.length_cons] at hl
        have hp : (put1 acc x).length = acc.length + 1 := by omega
        have hx : x ∉ acc := fun hm => by
          unfold put1 at hp; rw [if_pos hm] at hp; omega
        have ep : put1 acc x = acc ++ [x] := by unfold put1; rw [if_neg hx]
        rw [ep] at hl
        have := ih (acc ++ [x]) (List.nodup_append.mpr ⟨ha, by simp, fun a h1 b h2 => by rw [List.mem_singleton.mp h2]; exact fun z => hx (z ▸ h1)⟩) (by rw [hl, List.length_append, List.length_singleton]; omega)
        simpa using this
    have := key l [] List.nodup_nil (by simpa using e)
    simpa using this
/-! ### walks over a list or a tuple -/
def iSeq (K : PySem.W.Frag) (te : TE) : TI := fun σ H R => iList K te σ H R ∨ iTup K te σ H R
theorem pi_seq {X : Cx} {tg e : Expr} {te : TE} (he : PE X e te) : PI X tg e (iSeq X.K te) := ⟨fun pins s σ H R I h => h.elim (fun h => (pi_list he).run pins s σ H R I h) fun h => (pi_tup he).run pins s σ H R I h⟩
theorem el_lcQ {K : PySem.W.Frag} {σ : L2.St} {H : Hp} {te tl : TE} {vs : List Nat} {j : Nat} {f : Nat → V} {a : Addr} {xs : List V} (h : Ev tl σ H (.ref a)) (hx : SqL K H a xs ∨ SqT K H a xs) (hz : xs.length ≤ 100000) (hw : ∀ x, wipe ((wipe σ vs).set j (some x)) vs = wipe σ vs)
    (he : ∀ (i : Nat) (x : V), xs[i]? = some x → ∀ H2, Ex H H2 → Ev te ((wipe σ vs).set j (some x)) H2 (f i)) : EvL (tLc (iSeq K tl) (gName j) tYes te vs) σ H ((List.range xs.length).map f) := fun H1 e Q q =>
  hx.elim (fun hx => Or.inl (el_lcA h hx hz hw he H1 e Q q)) fun hx => Or.inr (el_lcT h hx hz hw he H1 e Q q)
theorem map_rangeB {α : Type} {f : Nat → Bool} {g : α → Bool} {l : List α} (h : ∀ (i : Nat) (a : α), l[i]? = some a → f i = g a) : ((List.range l.length).map fun i => V.bl (f i)) = (l.map g).map V.bl := by
  refine List.ext_getElem? fun i => ?_
  rw [List.getElem?_map, List.getElem?_map, List.getElem?_map]
  by_cases hi : i < l.length
  · rw [List.getElem?_range hi, List.getElem?_eq_getElem hi]
    exact congrArg (fun b => some (V.bl b)) (h i _ (List.getElem?_eq_getElem hi))
  · rw [List.getElem?_eq_none_iff.mpr (by rw [List.length_range]; omega), List.getElem?_eq_none_iff.mpr (by omega)]; rfl
theorem all_id {α : Type} (g : α → Bool) : ∀ l : List α, (l.map g).all id = l.all g
  | [] => rfl
  | a :: l => by rw [List.map_cons, List.all_cons, List.all_cons, all_id g l]; rfl
/-- all of a list of tests -/
theorem ev_allG {K : PySem.W.Frag} {σ : L2.St} {H : Hp} {te : TE} {α : Type} {l : List α} {n : Nat} {f : Nat → Bool} {g : α → Bool} (hn : n = l.length) (h : EvL te σ H ((List.range n).map fun i => V.bl (f i))) (hf : ∀ (i : Nat) (a : α), l[i]? = some a → f i = g a) : Ev (tCB (rAll K) (tCons te tNil)) σ H (.bl (l.all g)) := by
  subst hn
  rw [map_rangeB hf] at h
  exact Evl.ev_is (ev_all h) (by rw [all_id])
/-- what a def says: a value that hangs on pure facts alone -/
def spB (pre : List V → Hp → Bool → Prop) : Sp := fun vs H Q _ => ∃ b, pre vs H b ∧ ∀ H', Ex H H' → Q (.bl b) H'
theorem spB_ev {pre : List V → Hp → Bool → Prop} {vs : List V} {ta : TA} {σ : L2.St} {H : Hp} {b : Bool} (h : EvA ta σ H vs) (hp : ∀ H1, Ex H H1 → pre vs H1 b) : Ev (tCall (spB pre) [] E0 ta) σ H (.bl b) := ev_fn h fun H1 e Q q => ⟨b, hp H1 e, q⟩
section
variable {P : Program} {w : World} {K : PySem.W.Frag} {mg : Str → Option Value} {base : Heap} {C_Shape C_InvalidShape C_InvalidData C_StayError : Addr}
def preWd : List V → Hp → Bool → Prop := fun vs H b => ∃ (v : V) (m n : Nat) (S : Addr → Prop) (g : G), vs = [v] ∧ Rp H m n S g v ∧ m ≤ 100000 ∧ b = wdG g
theorem ok_is_word (T : Txt K mg C_Shape C_InvalidShape C_InvalidData C_StayError) (R : Prg K mg C_Shape C_InvalidShape C_InvalidData C_StayError) : ∃ f fd, Fn P w K mg base "is_word" 1 ["value"] (spB preWd) f fd := by
  obtain ⟨f, fd, at_, F, kp⟩ := R.is_word
  refine ⟨f, fd, F.ok sc_is_word (fun vs H Q E h => ?_) (fun cdv A outer s H vs Q E hr h => ?_), at_, kp, F.binds (fun _ _ _ _ _ _ us hl => match us, hl with | [_], _ => rfl)⟩
  · obtain ⟨b, ⟨v, m, n, S, g, rfl, _⟩, _⟩ := h; rfl
  · obtain ⟨b, ⟨v, m, n, S, g, rfl, hg, hm, rfl⟩, k⟩ := h
    refine ⟨_, (pss_cons (ps_if (PW.pt (pw_or (pt_not (pt_val (pe_callB (r := rIsi K) call_isi (by rfl) T.isinstance (by decide +kernel) (pa_cons (pv 0) (pa_cons (pe_bltn (v := .ty "str") (by rfl) T.str boot_str rfl) pa_nil))))) (pw_or1 (pt_not (pt_chain op_le op_le pe_int (pe_callB (r := rLenA K) call_len (by rfl) T.len (by decide +kernel) (pa_cons (pv 0) pa_nil)) pe_int))))) (pss_one (ps_ret pe_bl)) pss_nil)
  (pss_one (ps_ret (pe_callB (r := rAll K) (cr_all rfl) (by rfl) T.all (by decide +kernel) (pa_cons (pe_lc (own := [("letter", 1)]) rfl sc_is_word.nd (pi_str (pv 0)) (blkOk_by (own := [("letter", 1)]) (N := ["value", "letter"]) (sc := defScope s_is_word) (by decide +kernel)) (fun _ _ _ _ _ => (pg_name (i := 1) sc_is_word.nd rfl (Or.inl rfl))) (fun _ _ _ _ _ => pts_nil) (fun _ _ _ _ _ => (pe_chain op_le_str op_le_str pe_str (pv 1) pe_str))) pa_nil))))), ?_⟩
    by_cases c : ∃ x, g = .str x
    · obtain ⟨x, rfl⟩ := c
      obtain ⟨n, rfl⟩ := rp_pos hg
      obtain ⟨rfl, hx⟩ := id hg
      have lx : x.length ≤ 100000 := by omega
      refine Evl.q_when (b := !(decide (1 ≤ x.length) && decide (x.length ≤ 8))) (Evl.et_is (Evl.et_or (a := false) (b := !(decide (1 ≤ x.length) && decide (x.length ≤ 8))) (Evl.et_not (a := true) (Evl.et_B (ev_isG (d := .str x) (Evl.ev_var rfl) hg))) fun _ => Evl.et_not (Evl.et_test (Evl.ev_is (ev_chain Evl.ev_c (ev_lenS (Evl.ev_var rfl) lx) Evl.ev_c Evl.rv_I0 Evl.rv_I0) ?_))) (Bool.false_or _)) (fun hb H1 e1 => ?_) fun hb H1 e1 => ?_
      · have e1 : decide ((1 : Int) ≤ (x.length : Int)) = decide (1 ≤ x.length) := by congr 1; exact propext ⟨fun h => by omega, fun h => by omega⟩
        have e2 : decide ((x.length : Int) ≤ 8) = decide (x.length ≤ 8) := by congr 1; exact propext ⟨fun h => by omega, fun h => by omega⟩
        rw [e1, e2]
      · refine Evl.s_ret (v := .bl (wdS x)) (Evl.ev_is Evl.ev_c ?_) fun H2 e2 => k H2 (e1.trans e2)
        have hb : (decide (1 ≤ x.length) && decide (x.length ≤ 8)) = false := by
          cases c : (decide (1 ≤ x.length) && decide (x.length ≤ 8)) with
          | false => rfl
          | true => rw [c] at hb; cases hb
        unfold wdS; rw [hb]; rfl
      · have hb : (decide (1 ≤ x.length) && decide (x.length ≤ 8)) = true := by
          cases c : (decide (1 ≤ x.length) && decide (x.length ≤ 8)) with
          | true => rfl
          | false => rw [c] at hb; cases hb
        have ew : wdS x = x.cps.toList.all fun c => decide (97 ≤ c) && decide (c ≤ 122) := by unfold wdS; rw [hb]; rfl
        refine Evl.s_ret (v := .bl (wdS x)) (Evl.ev_is (ev_allG (l := x.cps.toList) (g := fun c => decide (97 ≤ c) && decide (c ≤ 122)) (f := fun i => (x.cps.toList[i]?.map fun c => decide (97 ≤ c) && decide (c ≤ 122)).getD false) (by simp [Str.length]) (el_lcS (Evl.ev_var rfl) lx (fun _ => rfl) fun i c hi H2 e2 => ?_) (fun i c hc => by rw [hc]; rfl)) (by rw [ew])) fun H2 e2 => k H2 (e1.trans e2)
        have hi' : x.cps.toList[i]? = some c := by rw [Array.getElem?_toList]; exact hi
        refine Evl.ev_is (ev_chain (b1 := decide (97 ≤ c)) (b2 := decide (c ≤ 122)) Evl.ev_c (Evl.ev_var rfl) Evl.ev_c ?_ ?_) (by rw [hi']; rfl)
        · exact fun H1 _ Q q => ⟨_, _, rfl, rfl, by rw [show (!decide ((⟨#[c]⟩ : Str).cps.toList < ("a" : Str).cps.toList)) = decide (97 ≤ c) from le_dec]; exact q H1 (Ex.refl _)⟩
        · exact fun H1 _ Q q => ⟨_, _, rfl, rfl, by rw [show (!decide (("z" : Str).cps.toList < (⟨#[c]⟩ : Str).cps.toList)) = decide (c ≤ 122) from le_dec]; exact q H1 (Ex.refl _)⟩
    · have nS : isK g "str" = false := by
        cases g with
        | str s => exact absurd ⟨s, rfl⟩ c
        | non => exact (show (kitB "NoneType" "str").getD false = false by decide +kernel)
        | bl b => exact (show (kitB "bool" "str").getD false = false by decide +kernel)
        | int b => exact (show (kitB "int" "str").getD false = false by decide +kernel)
        | lst b => exact (show (kitB "list" "str").getD false = false by decide +kernel)
        | tup b => exact (show (kitB "tuple" "str").getD false = false by decide +kernel)
        | dic b => exact (show (kitB "dict" "str").getD false = false by decide +kernel)
      have nW : wdG g = false := by
        cases g with
        | str s => exact absurd ⟨s, rfl⟩ c
        | _ => rfl
      rw [nW] at k
      exact Evl.q_when (b := true) (Evl.et_or (a := true) (b := false) (Evl.et_is (Evl.et_not (Evl.et_B (ev_isG (Evl.ev_var rfl) hg))) (by rw [nS]; rfl)) fun h => nomatch h) (fun _ H1 e1 => Evl.s_ret Evl.ev_c fun H2 e2 => k H2 (e1.trans e2)) fun h => nomatch h
/-! ### are_words of a list or a tuple -/
def preWordsG (K : PySem.W.Frag) : List V → Hp → Bool → Prop := fun vs H b => ∃ (a : Addr) (xs : List V) (l : List G) (m n : Nat) (S : Addr → Prop) (lo hi : Int), vs = [.ref a, .int lo, .int hi] ∧ (SqL K H a xs ∨ SqT K H a xs) ∧ Paired (fun d x => Rp H m n S d x) l xs ∧ l.length ≤ 100000 ∧ m ≤ 100000 ∧ hi ≤ 1000 ∧ b = wordsL l lo hi
theorem ok_are_words (T : Txt K mg C_Shape C_InvalidShape C_InvalidData C_StayError) (R : Prg K mg C_Shape C_InvalidShape C_InvalidData C_StayError) : ∃ f fd, Fn P w K mg base "are_words" 2 ["values", "least", "most"] (spB (preWordsG K)) f fd := by
  obtain ⟨_, _, G_is_word⟩ := ok_is_word (P := P) (w := w) (base := base) T R
  obtain ⟨f, fd, at_, F, kp⟩ := R.are_words
  refine ⟨f, fd, F.ok sc_are_words (fun vs H Q E h => ?_) (fun cdv A outer s H vs Q E hr h => ?_), at_, kp, F.binds (fun _ _ _ _ _ _ us hl => match us, hl with | [_, _, _], _ => rfl)⟩
  · obtain ⟨b, ⟨a, xs, l, m, n, S, lo, hi, rfl, _⟩, _⟩ := h; rfl
  · obtain ⟨b, ⟨a, xs, l, m, n, S, lo, hi, rfl, hx, pr, hl, hm, h1000, rfl⟩, k⟩ := h
    have lx := pair_len pr
    have xq : ∀ {H'}, Ex H H' → SqL K H' a xs ∨ SqT K H' a xs := fun e => hx.imp (Evl.ex_l e) (Evl.ex_t e)
    refine ⟨_, (pss_cons (ps_if (PW.pt (pw_or (pt_not (pt_chain op_le op_le (pv 1) (pe_callB (r := rLenA K) call_len (by rfl) T.len (by decide +kernel) (pa_cons (pv 0) pa_nil)) (pv 2))) (pw_or1 (pt_not (pt_val (pe_callB (r := rAll K) (cr_all rfl) (by rfl) T.all (by decide +kernel) (pa_cons (pe_lc (own := [("value", 3)]) rfl sc_are_words.nd (pi_seq (pv 0)) (blkOk_by (own := [("value", 3)]) (N := ["values", "least", "most", "value"]) (sc := defScope s_are_words) (by decide +kernel)) (fun _ _ _ _ _ => (pg_name (i := 3) sc_are_words.nd rfl (Or.inl rfl))) (fun _ _ _ _ _ => pts_nil) (fun _ _ _ _ _ => (pcl G_is_word hr (pa_cons (pv 3) pa_nil)))) pa_nil))))))) (pss_one (ps_ret pe_bl)) pss_nil)
  (pss_one (ps_ret (pe_cmpR op_eq (pe_callB call_lenTxs (by rfl) T.len (by decide +kernel) (pa_cons (pe_callTy (r := rSetS K P w) (cr_setS rfl) (by rfl) T.set (by decide +kernel) (pa_cons (pv 0) pa_nil)) pa_nil)) (pe_callB (r := rLenA K) call_len (by rfl) T.len (by decide +kernel) (pa_cons (pv 0) pa_nil)) (nomark _))))), ?_⟩
    refine Evl.q_when (b := !(decide (lo ≤ (l.length : Int)) && decide ((l.length : Int) ≤ hi)) || !l.all wdG) (Evl.et_or (Evl.et_not (Evl.et_test (Evl.ev_is (ev_chain (Evl.ev_var rfl) (ev_lenL (Evl.ev_var rfl) hx) (Evl.ev_var rfl) Evl.rv_I0 Evl.rv_I0) (by rw [← lx])))) fun _ => Evl.et_not (Evl.et_B (ev_allG (l := l) (g := wdG) (f := fun i => (l[i]?.map wdG).getD false) lx.symm (el_lcQ (Evl.ev_var rfl) hx (by omega) (fun _ => rfl) fun i x hi2 H2 e2 => ?_) (fun i d hd => by rw [hd]; rfl)))) (fun hb H1 e1 => ?_) fun hb H1 e1 => ?_
    · obtain ⟨d, hd, hr2⟩ := pair_back pr hi2
      exact Evl.ev_is (spB_ev (b := wdG d) (Evl.ea_cons (Evl.ev_var rfl) Evl.ea_nil) fun H3 e3 => ⟨x, m, n, S, d, rfl, rp_ex (e2.trans e3) hr2, hm, rfl⟩) (by rw [hd]; rfl)
    · refine Evl.s_ret (v := .bl (wordsL l lo hi)) (Evl.ev_is Evl.ev_c ?_) fun H2 e2 => k H2 (e1.trans e2)
      unfold wordsL
      cases c1 : (decide (lo ≤ (l.length : Int)) && decide ((l.length : Int) ≤ hi)) with
      | false => rfl
      | true =>
        cases c2 : l.all wdG with
        | false => rfl
        | true => rw [c1, c2] at hb; cases hb
    · have c1 : (decide (lo ≤ (l.length : Int)) && decide ((l.length : Int) ≤ hi)) = true := by
        cases c : (decide (lo ≤ (l.length : Int)) && decide ((l.length : Int) ≤ hi)) with
        | true => rfl
        | false => rw [c] at hb; cases hb
      have c2 : l.all wdG = true := by
        cases c : l.all wdG with
        | true => rfl
        | false => rw [c1, c] at hb; cases hb
      have few : l.length ≤ 1000 := by
        simp only [Bool.and_eq_true, decide_eq_true_eq] at c1; omega
      have el := words_strs c2
      have ls : (strsG l).length = l.length := by conv => rhs; rw [el]; rw [List.length_map]
      have ex : xs = (strsG l).map V.str := by
        rw [el] at pr
        clear c1 c2 few ls el lx hl hx k xq
        generalize strsG l = ws at pr
        induction ws generalizing xs with
        | nil => cases pr; rfl
        | cons y ws ih =>
          cases pr with
          | cons h t =>
            obtain ⟨n, rfl⟩ := rp_pos h
            rw [ih _ t, show _ = V.str y from h.1]; rfl
      subst ex
      refine Evl.s_ret (v := .bl (wordsL l lo hi)) (Evl.ev_is (Evl.ev_op (ev_lenSet (Evl.ev_var rfl) (xq e1) (by omega)) (ev_lenL (Evl.ev_var rfl) (xq e1)) (Evl.rv_eq rfl)) ?_) fun H2 e2 => k H2 (e1.trans e2)
      have : decide (V.int ((met [] (strsG l)).length : Int) = V.int (((strsG l).map V.str).length : Int)) = decide ((met [] (strsG l)).length = (strsG l).length) := by
        rw [List.length_map]
        congr 1
        exact propext ⟨fun h => by have := V.int.inj h; omega, fun h => by rw [h]⟩
      rw [this, met_len_eq]
      unfold wordsL; rw [c1, c2]; rfl
end
end Pk

namespace Pk
open PySem PySem.Spec PyProof.Rows L2 Ssb
open Evl (Ex Ev EvT EvL EvA EvU)
/-- the datum at a name of a dict -/
def atG (g : G) (k : Str) : G := ((dicG g).bind fun l => lkG l (Sum.inr k)).getD .non
def shapesG (g : G) (most : Int) : Bool := named g most && ((dicG g).map fun l => l.all fun p => hasN p.2 ["fields", "inner"]).getD false
def fieldG (g : G) : Bool := isK g "tuple" && wordsG g 2 3
def fieldsG (g : G) : Bool := named g 2 && ((dicG g).map fun l => l.all fun p => fieldG p.2).getD false
theorem isK_dic (g : G) : isK g "dict" = (dicG g).isSome := by
  cases g with
  | non => exact (show (kitB "NoneType" "dict").getD false = false by decide +kernel)
  | bl b => exact (show (kitB "bool" "dict").getD false = false by decide +kernel)
  | int b => exact (show (kitB "int" "dict").getD false = false by decide +kernel)
  | str b => exact (show (kitB "str" "dict").getD false = false by decide +kernel)
  | lst b => exact (show (kitB "list" "dict").getD false = false by decide +kernel)
  | tup b => exact (show (kitB "tuple" "dict").getD false = false by decide +kernel)
  | dic b => exact (show (kitB "dict" "dict").getD false = true by decide +kernel)
def isTupG : G → Bool
  | .tup _ => true
  | _ => false
def isLstG : G → Bool
  | .lst _ => true
  | _ => false
def isStrG : G → Bool
  | .str _ => true
  | _ => false
theorem isK_str (g : G) : isK g "str" = isStrG g := by
  cases g with
  | non => exact (show (kitB "NoneType" "str").getD false = false by decide +kernel)
  | bl b => exact (show (kitB "bool" "str").getD false = false by decide +kernel)
  | int b => exact (show (kitB "int" "str").getD false = false by decide +kernel)
  | str b => exact (show (kitB "str" "str").getD false = true by decide +kernel)
  | lst b => exact (show (kitB "list" "str").getD false = false by decide +kernel)
  | tup b => exact (show (kitB "tuple" "str").getD false = false by decide +kernel)
  | dic b => exact (show (kitB "dict" "str").getD false = false by decide +kernel)
theorem isK_tup (g : G) : isK g "tuple" = isTupG g := by
  cases g with
  | non => exact (show (kitB "NoneType" "tuple").getD false = false by decide +kernel)
  | bl b => exact (show (kitB "bool" "tuple").getD false = false by decide +kernel)
  | int b => exact (show (kitB "int" "tuple").getD false = false by decide +kernel)
  | str b => exact (show (kitB "str" "tuple").getD false = false by decide +kernel)
  | lst b => exact (show (kitB "list" "tuple").getD false = false by decide +kernel)
  | tup b => exact (show (kitB "tuple" "tuple").getD false = true by decide +kernel)
  | dic b => exact (show (kitB "dict" "tuple").getD false = false by decide +kernel)
theorem isK_lst (g : G) : isK g "list" = isLstG g := by
  cases g with
  | non => exact (show (kitB "NoneType" "list").getD false = false by decide +kernel)
  | bl b => exact (show (kitB "bool" "list").getD false = false by decide +kernel)
  | int b => exact (show (kitB "int" "list").getD false = false by decide +kernel)
  | str b => exact (show (kitB "str" "list").getD false = false by decide +kernel)
  | lst b => exact (show (kitB "list" "list").getD false = true by decide +kernel)
  | tup b => exact (show (kitB "tuple" "list").getD false = false by decide +kernel)
  | dic b => exact (show (kitB "dict" "list").getD false = false by decide +kernel)
/-- a dict as it stands -/
theorem rp_dic {H : Hp} {m n : Nat} {S : Addr → Prop} {l : List KG} {v : V} (h : Rp H m n S (.dic l) v) : ∃ k a es, n = k + 1 ∧ v = .ref a ∧ S a ∧ H a = some (.dK es) ∧ l.length ≤ m ∧ es.length = l.length ∧ okK m l ∧ (es.map fun e : Key × V => e.1) = (l.map fun p : KG => p.1) ∧ Paired (fun (q : KG) (e : Key × V) => e.1 = q.1 ∧ Rp H m k (fun b => S b ∧ b ≠ a) q.2 e.2) l es := by
  obtain ⟨k, rfl⟩ := rp_pos h
  obtain ⟨a, es, e, s, ha, hl, ok, p⟩ := h
  exact ⟨k, a, es, rfl, e, s, ha, hl, (pair_len p).symm, ok, pair_keysG p, p⟩
theorem vG_some {F : G → V → Prop} {l : List KG} {es : List (Key × V)} (p : Paired (fun (q : KG) (e : Key × V) => e.1 = q.1 ∧ F q.2 e.2) l es) (k : Key) : (valV es k).isSome = (lkG l k).isSome := by
  rcases pair_lkG p k with ⟨d, v, h1, h2, _⟩ | ⟨h1, h2⟩
  · rw [h1, h2]; rfl
  · rw [h1, h2]; rfl
/-- what stands at a name that is there -/
theorem rp_get {H : Hp} {m n : Nat} {S : Addr → Prop} {l : List KG} {es : List (Key × V)} {a : Addr} {k : Str} (p : Paired (fun (q : KG) (e : Key × V) => e.1 = q.1 ∧ Rp H m n (fun b => S b ∧ b ≠ a) q.2 e.2) l es) (h : (lkG l (Sum.inr k)).isSome = true) : ∃ v, valV es (Sum.inr k : Key) = some v ∧ Rp H m n (fun b => S b ∧ b ≠ a) (atG (.dic l) k) v := by
  rcases pair_lkG p (Sum.inr k) with ⟨d, v, h1, h2, h3⟩ | ⟨h1, h2⟩
  · refine ⟨v, h2, ?_⟩
    have : atG (.dic l) k = d := by unfold atG dicG; simp [h1]
    rw [this]; exact h3
  · rw [h1] at h; cases h
section
variable {P : Program} {w : World} {K : PySem.W.Frag} {mg : Str → Option Value} {base : Heap} {C_Shape C_InvalidShape C_InvalidData C_StayError : Addr}
def preHas (K : PySem.W.Frag) : List V → Hp → Bool → Prop := fun vs H b => ∃ (v : V) (m n : Nat) (S : Addr → Prop) (g : G) (a : Addr) (ns : List Str), vs = [v, .ref a] ∧ Rp H m n S g v ∧ SqL K H a (ns.map V.str) ∧ ns.length ≤ 1000 ∧ b = hasN g ns
theorem ok_has_names (T : Txt K mg C_Shape C_InvalidShape C_InvalidData C_StayError) (R : Prg K mg C_Shape C_InvalidShape C_InvalidData C_StayError) : ∃ f fd, Fn P w K mg base "has_names" 1 ["value", "names"] (spB (preHas K)) f fd := by
  obtain ⟨f, fd, at_, F, kp⟩ := R.has_names
  refine ⟨f, fd, F.ok sc_has_names (fun vs H Q E h => ?_) (fun cdv A outer s H vs Q E hr h => ?_), at_, kp, F.binds (fun _ _ _ _ _ _ us hl => match us, hl with | [_, _], _ => rfl)⟩
  · obtain ⟨b, ⟨v, m, n, S, g, a, ns, rfl, _⟩, _⟩ := h; rfl
  · obtain ⟨b, ⟨v, m, n, S, g, a, ns, rfl, hg, ha, hn, rfl⟩, k⟩ := h
    refine ⟨_, (pss_one (ps_ret (pe_and (pe_callB (r := rIsi K) call_isi (by rfl) T.isinstance (by decide +kernel) (pa_cons (pv 0) (pa_cons (pe_bltn (v := .ty "dict") (by rfl) T.dict boot_dict rfl) pa_nil))) (pe_and (pe_cmpR op_eq (pe_callB call_lenD (by rfl) T.len (by decide +kernel) (pa_cons (pv 0) pa_nil)) (pe_callB (r := rLenA K) call_len (by rfl) T.len (by decide +kernel) (pa_cons (pv 1) pa_nil)) (nomark _)) (pe_one (pe_callB (r := rAll K) (cr_all rfl) (by rfl) T.all (by decide +kernel) (pa_cons (pe_lc (own := [("name", 2)]) rfl sc_has_names.nd (show PI _ _ _ (iList K _) from pi_list (pv 1)) (blkOk_by (own := [("name", 2)]) (N := ["value", "names", "name"]) (sc := defScope s_has_names) (by decide +kernel)) (fun _ _ _ _ _ => (pg_name (i := 2) sc_has_names.nd rfl (Or.inl rfl))) (fun _ _ _ _ _ => pts_nil) (fun _ _ _ _ _ => (pe_cmp (pc_din (hu_of hr) (pv 2) (pv 0)) rfl))) pa_nil))))))), ?_⟩
    refine Evl.s_ret (v := .bl (hasN g ns)) ?_ fun H2 e2 => k H2 e2
    cases hd : dicG g with
    | none =>
      have : hasN g ns = false := by unfold hasN; rw [hd]; rfl
      exact Evl.ev_is (Evl.ev_andV (a := false) (b := false) (Evl.ev_is (ev_isG (Evl.ev_var rfl) hg) (by rw [isK_dic, hd]; rfl)) fun h => nomatch h) (by rw [this]; rfl)
    | some l =>
      have eg : g = .dic l := by cases g <;> simp [dicG] at hd; rw [hd]
      subst eg
      obtain ⟨n, d, es, rfl, rfl, _, hda, _, le, _, _, pr⟩ := rp_dic hg
      have e1 : hasN (.dic l) ns = (true && (decide (l.length = ns.length) && ns.all fun n => (lkG l (Sum.inr n)).isSome)) := by unfold hasN; rw [hd]; rfl
      rw [e1]
      refine Evl.ev_andV (Evl.ev_is (ev_isG (Evl.ev_var rfl) hg) (by rw [isK_dic, hd]; rfl)) fun _ => Evl.ev_andV (Evl.ev_is (Evl.ev_op (ev_lenK (Evl.ev_var rfl) hda) (ev_lenL (Evl.ev_var rfl) (.inl ha)) (Evl.rv_eq rfl)) ?_) fun _ => ev_allG (l := ns) (g := fun n => (lkG l (Sum.inr n)).isSome) (f := fun i => (ns[i]?.map fun n => (lkG l (Sum.inr n)).isSome).getD false) (by rw [List.length_map]) (el_lcA (Evl.ev_var rfl) ha (by rw [List.length_map]; omega) (fun _ => rfl) fun i x hx H2 e2 => ?_) (fun i d hd => by rw [hd]; rfl)
      · rw [List.length_map, le]
        congr 1
        congr 1
        exact propext ⟨fun h => by have := V.int.inj h; omega, fun h => by rw [h]⟩
      · obtain ⟨z, hz, rfl⟩ : ∃ z, ns[i]? = some z ∧ x = .str z := by
          rw [List.getElem?_map] at hx
          cases e : ns[i]? with
          | none => rw [e] at hx; cases hx
          | some z => rw [e] at hx; exact ⟨z, rfl, (Option.some.inj hx).symm⟩
        exact Evl.ev_is (ev_din (Evl.ev_var rfl) (Evl.ev_var rfl) (.inl (e2 _ _ hda))) (by rw [vG_some pr, hz]; rfl)
def preNamed : List V → Hp → Bool → Prop := fun vs H b => ∃ (v : V) (m n : Nat) (S : Addr → Prop) (g : G) (mo : Int), vs = [v, .int mo] ∧ Rp H m n S g v ∧ m ≤ 100000 ∧ b = named g mo
theorem ok_is_named (T : Txt K mg C_Shape C_InvalidShape C_InvalidData C_StayError) (R : Prg K mg C_Shape C_InvalidShape C_InvalidData C_StayError) : ∃ f fd, Fn P w K mg base "is_named" 2 ["value", "most"] (spB preNamed) f fd := by
  obtain ⟨_, _, G_is_word⟩ := ok_is_word (P := P) (w := w) (base := base) T R
  obtain ⟨f, fd, at_, F, kp⟩ := R.is_named
  refine ⟨f, fd, F.ok sc_is_named (fun vs H Q E h => ?_) (fun cdv A outer s H vs Q E hr h => ?_), at_, kp, F.binds (fun _ _ _ _ _ _ us hl => match us, hl with | [_, _], _ => rfl)⟩
  · obtain ⟨b, ⟨v, m, n, S, g, mo, rfl, _⟩, _⟩ := h; rfl
  · obtain ⟨b, ⟨v, m, n, S, g, mo, rfl, hg, hm, rfl⟩, k⟩ := h
    refine ⟨_, (pss_one (ps_ret (pe_and (pe_callB (r := rIsi K) call_isi (by rfl) T.isinstance (by decide +kernel) (pa_cons (pv 0) (pa_cons (pe_bltn (v := .ty "dict") (by rfl) T.dict boot_dict rfl) pa_nil))) (pe_and (pe_cmpR op_le (pe_callB call_lenD (by rfl) T.len (by decide +kernel) (pa_cons (pv 0) pa_nil)) (pv 1) (nomark _)) (pe_one (pe_callB (r := rAll K) (cr_all rfl) (by rfl) T.all (by decide +kernel) (pa_cons (pe_lock (pe_lc (own := [("key", 2)]) rfl sc_is_named.nd (pi_keys (pv 0)) (blkOk_by (own := [("key", 2)]) (N := ["value", "most", "key"]) (sc := defScope s_is_named) (by decide +kernel)) (fun _ _ _ _ _ => (pg_name (i := 2) sc_is_named.nd rfl (Or.inl rfl))) (fun _ _ _ _ _ => pts_nil) (fun _ _ _ _ _ => (pcl G_is_word hr (pa_cons (pv 2) pa_nil))))) pa_nil))))))), ?_⟩
    refine Evl.s_ret (v := .bl (named g mo)) ?_ fun H2 e2 => k H2 e2
    cases hd : dicG g with
    | none =>
      have : named g mo = false := by unfold named; rw [hd]; rfl
      exact Evl.ev_is (Evl.ev_andV (a := false) (b := false) (Evl.ev_is (ev_isG (Evl.ev_var rfl) hg) (by rw [isK_dic, hd]; rfl)) fun h => nomatch h) (by rw [this]; rfl)
    | some l =>
      have eg : g = .dic l := by cases g <;> simp [dicG] at hd; rw [hd]
      subst eg
      obtain ⟨n, d, es, rfl, rfl, _, hda, hl, le, okk, _, pr⟩ := rp_dic hg
      have e1 : named (.dic l) mo = (true && (decide ((l.length : Int) ≤ mo) && l.all fun p => wdK p.1)) := by unfold named; rw [hd]; rfl
      rw [e1]
      refine Evl.ev_andV (Evl.ev_is (ev_isG (Evl.ev_var rfl) hg) (by rw [isK_dic, hd]; rfl)) fun _ => Evl.ev_andV (Evl.ev_is (Evl.ev_op (ev_lenK (Evl.ev_var rfl) hda) (Evl.ev_var rfl) Evl.rv_I0) (by rw [le])) fun _ => ev_allG (l := l) (g := fun p => wdK p.1) (f := fun i => (l[i]?.map fun p => wdK p.1).getD false) le (el_lcK (fun H1 => Evl.ev_var rfl) hda (by omega) (fun _ => rfl) fun i x v hx od H1 H2 e1 e2 => ?_) (fun i d hd => by rw [hd]; rfl)
      obtain ⟨p, hp, hx1, _⟩ := pair_back pr hx
      have hx1 : x = p.1 := hx1
      subst hx1
      exact Evl.ev_is (spB_ev (b := wdK p.1) (Evl.ea_cons (Evl.ev_var rfl) Evl.ea_nil) fun H3 _ => ⟨kV p.1, m, 1, fun _ => False, kG p.1, rfl, rp_key (okk.2 p (List.mem_of_getElem? hp)), hm, (wdG_k _).symm⟩) (by rw [hp]; rfl)
theorem ev_strL2 {σ : L2.St} {H : Hp} {a b : Str} : EvL (tLst (tCons (tC (.str a)) (tCons (tC (.str b)) tNil))) σ H [.str a, .str b] := Evl.el_lst (Evl.ea_cons Evl.ev_c (Evl.ea_cons Evl.ev_c Evl.ea_nil)) (by show 2 ≤ 100000; decide)
def preShapes : List V → Hp → Bool → Prop := fun vs H b => ∃ (v : V) (m n : Nat) (S : Addr → Prop) (g : G) (mo : Int), vs = [v, .int mo] ∧ Rp H m n S g v ∧ m ≤ 100000 ∧ b = shapesG g mo
theorem ok_are_list_shapes (T : Txt K mg C_Shape C_InvalidShape C_InvalidData C_StayError) (R : Prg K mg C_Shape C_InvalidShape C_InvalidData C_StayError) : ∃ f fd, Fn P w K mg base "are_list_shapes" 3 ["lists", "most"] (spB preShapes) f fd := by
  obtain ⟨_, _, G_is_named⟩ := ok_is_named (P := P) (w := w) (base := base) T R
  obtain ⟨_, _, G_has_names⟩ := ok_has_names (P := P) (w := w) (base := base) T R
  obtain ⟨f, fd, at_, F, kp⟩ := R.are_list_shapes
  refine ⟨f, fd, F.ok sc_are_list_shapes (fun vs H Q E h => ?_) (fun cdv A outer s H vs Q E hr h => ?_), at_, kp, F.binds (fun _ _ _ _ _ _ us hl => match us, hl with | [_, _], _ => rfl)⟩
  · obtain ⟨b, ⟨v, m, n, S, g, mo, rfl, _⟩, _⟩ := h; rfl
  · obtain ⟨b, ⟨v, m, n, S, g, mo, rfl, hg, hm, rfl⟩, k⟩ := h
    refine ⟨_, (pss_cons (ps_if (pt_not (pt_val (pcl G_is_named hr (pa_cons (pv 0) (pa_cons (pv 1) pa_nil))))) (pss_one (ps_ret pe_bl)) pss_nil)
  (pss_one (ps_ret (pe_callB (r := rAll K) (cr_all rfl) (by rfl) T.all (by decide +kernel) (pa_cons (pe_lock (pe_lc (own := [("one", 2)]) rfl sc_are_list_shapes.nd (pi_values (pv 0)) (blkOk_by (own := [("one", 2)]) (N := ["lists", "most", "one"]) (sc := defScope s_are_list_shapes) (by decide +kernel)) (fun _ _ _ _ _ => (pg_name (i := 2) sc_are_list_shapes.nd rfl (Or.inl rfl))) (fun _ _ _ _ _ => pts_nil) (fun _ _ _ _ _ => (pcl G_has_names hr (pa_cons (pv 2) (pa_cons (pe_lst (pa_cons pe_str (pa_cons pe_str pa_nil))) pa_nil)))))) pa_nil))))), ?_⟩
    refine Evl.q_when (b := !named g mo) (Evl.et_not (Evl.et_B (spB_ev (Evl.ea_cons (Evl.ev_var rfl) (Evl.ea_cons (Evl.ev_var rfl) Evl.ea_nil)) fun H3 e3 => ⟨v, m, n, S, g, mo, rfl, rp_ex e3 hg, hm, rfl⟩))) (fun hb H1 e1 => ?_) fun hb H1 e1 => ?_
    · have hb : named g mo = false := by simpa using hb
      refine Evl.s_ret (v := .bl (shapesG g mo)) (Evl.ev_is Evl.ev_c (by unfold shapesG; rw [hb]; rfl)) fun H2 e2 => k H2 (e1.trans e2)
    · have hb : named g mo = true := by simpa using hb
      cases hd : dicG g with
      | none => exact absurd hb (by unfold named; rw [hd]; simp)
      | some l =>
        have eg : g = .dic l := by cases g <;> simp [dicG] at hd; rw [hd]
        subst eg
        obtain ⟨n, d, es, rfl, rfl, _, hda, hl, le, okk, _, pr⟩ := rp_dic hg
        have ev : shapesG (.dic l) mo = l.all fun p => hasN p.2 ["fields", "inner"] := by unfold shapesG; rw [hb, hd]; rfl
        rw [ev] at k
        refine Evl.s_ret (ev_allG (l := l) (g := fun p => hasN p.2 ["fields", "inner"]) (f := fun i => (l[i]?.map fun p => hasN p.2 ["fields", "inner"]).getD false) le (el_lcV (fun H2 e2 od => Evl.ev_var rfl) (e1 _ _ hda) (by omega) (fun _ => rfl) fun i x v hx od H2 H3 e2 e3 => ?_) (fun i d hd => by rw [hd]; rfl)) fun H2 e2 => k H2 (e1.trans e2)
        obtain ⟨p, hp, hx1, hr2⟩ := pair_back pr hx
        have e12 := e1.trans e2
        have hr3 := rp_in (e12 _ _ hda) e3 (rp_ex e12 hr2)
        intro H4 e4 Q' q'
        refine ⟨_, rfl, ev_strL2 H4 (Ex.refl _) _ fun t H5 ht e5 ht5 => ?_⟩
        refine ⟨hasN p.2 ["fields", "inner"], ⟨v, m, n, _, p.2, t, ["fields", "inner"], rfl, rp_ex (e4.trans e5) hr3, Evl.sq_of ht5, by decide, rfl⟩, fun H6 e6 => ?_⟩
        have := q' H6 (e5.trans e6)
        rw [hp] at this
        exact this
theorem itsG_of {g : G} {H : Hp} {K : PySem.W.Frag} {m n : Nat} {S : Addr → Prop} {v : V} {l : List G} (h : itsG g = some l) (hg : Rp H m n S g v) : ∃ k a xs, n = k + 1 ∧ v = .ref a ∧ (SqL K H a xs ∨ SqT K H a xs) ∧ l.length ≤ m ∧ Paired (fun d x => Rp H m k S d x) l xs := by
  obtain ⟨k, rfl⟩ := rp_pos hg
  cases g with
  | lst l' =>
    cases h
    obtain ⟨a, xs, e, _, ha, hl, p⟩ := hg
    exact ⟨k, a, xs, rfl, e, .inl (Evl.sq_of ha), hl, p⟩
  | tup l' =>
    cases h
    obtain ⟨a, xs, e, ha, hl, p⟩ := hg
    exact ⟨k, a, xs, rfl, e, .inr (Evl.st_of ha), hl, p⟩
  | _ => cases h
def preFields : List V → Hp → Bool → Prop := fun vs H b => ∃ (v : V) (m n : Nat) (S : Addr → Prop) (g : G), vs = [v] ∧ Rp H m n S g v ∧ m ≤ 100000 ∧ b = fieldsG g
theorem ok_are_fields (T : Txt K mg C_Shape C_InvalidShape C_InvalidData C_StayError) (R : Prg K mg C_Shape C_InvalidShape C_InvalidData C_StayError) : ∃ f fd, Fn P w K mg base "are_fields" 3 ["fields"] (spB preFields) f fd := by
  obtain ⟨_, _, G_is_named⟩ := ok_is_named (P := P) (w := w) (base := base) T R
  obtain ⟨_, _, G_are_words⟩ := ok_are_words (P := P) (w := w) (base := base) T R
  obtain ⟨f, fd, at_, F, kp⟩ := R.are_fields
  refine ⟨f, fd, F.ok sc_are_fields (fun vs H Q E h => ?_) (fun cdv A outer s H vs Q E hr h => ?_), at_, kp, F.binds (fun _ _ _ _ _ _ us hl => match us, hl with | [_], _ => rfl)⟩
  · obtain ⟨b, ⟨v, m, n, S, g, rfl, _⟩, _⟩ := h; rfl
  · obtain ⟨b, ⟨v, m, n, S, g, rfl, hg, hm, rfl⟩, k⟩ := h
    refine ⟨_, (pss_cons (ps_if (pt_not (pt_val (pcl G_is_named hr (pa_cons (pv 0) (pa_cons pe_int pa_nil))))) (pss_one (ps_ret pe_bl)) pss_nil)
  (pss_one (ps_ret (pe_callB (r := rAll K) (cr_all rfl) (by rfl) T.all (by decide +kernel) (pa_cons (pe_lock (pe_lc (own := [("words", 1)]) rfl sc_are_fields.nd (pi_values (pv 0)) (blkOk_by (own := [("words", 1)]) (N := ["fields", "words"]) (sc := defScope s_are_fields) (by decide +kernel)) (fun _ _ _ _ _ => (pg_name (i := 1) sc_are_fields.nd rfl (Or.inl rfl))) (fun _ _ _ _ _ => pts_nil) (fun _ _ _ _ _ => (pe_and (pe_callB (r := rIsi K) call_isi (by rfl) T.isinstance (by decide +kernel) (pa_cons (pv 1) (pa_cons (pe_bltn (v := .ty "tuple") (by rfl) T.tuple boot_tuple rfl) pa_nil))) (pe_one (pcl G_are_words hr (pa_cons (pv 1) (pa_cons pe_int (pa_cons pe_int pa_nil))))))))) pa_nil))))), ?_⟩
    refine Evl.q_when (b := !named g 2) (Evl.et_not (Evl.et_B (spB_ev (Evl.ea_cons (Evl.ev_var rfl) (Evl.ea_cons Evl.ev_c Evl.ea_nil)) fun H3 e3 => ⟨v, m, n, S, g, 2, rfl, rp_ex e3 hg, hm, rfl⟩))) (fun hb H1 e1 => ?_) fun hb H1 e1 => ?_
    · have hb : named g 2 = false := by simpa using hb
      refine Evl.s_ret (v := .bl (fieldsG g)) (Evl.ev_is Evl.ev_c (by unfold fieldsG; rw [hb]; rfl)) fun H2 e2 => k H2 (e1.trans e2)
    · have hb : named g 2 = true := by simpa using hb
      cases hd : dicG g with
      | none => exact absurd hb (by unfold named; rw [hd]; simp)
      | some l =>
        have eg : g = .dic l := by cases g <;> simp [dicG] at hd; rw [hd]
        subst eg
        obtain ⟨n, d, es, rfl, rfl, _, hda, hl, le, okk, _, pr⟩ := rp_dic hg
        have ev : fieldsG (.dic l) = l.all fun p => fieldG p.2 := by unfold fieldsG; rw [hb, hd]; rfl
        rw [ev] at k
        refine Evl.s_ret (ev_allG (l := l) (g := fun p => fieldG p.2) (f := fun i => (l[i]?.map fun p => fieldG p.2).getD false) le (el_lcV (fun H2 e2 od => Evl.ev_var rfl) (e1 _ _ hda) (by omega) (fun _ => rfl) fun i x v hx od H2 H3 e2 e3 => ?_) (fun i d hd => by rw [hd]; rfl)) fun H2 e2 => k H2 (e1.trans e2)
        obtain ⟨p, hp, hx1, hr2⟩ := pair_back pr hx
        have e12 := e1.trans e2
        have hr3 := rp_in (e12 _ _ hda) e3 (rp_ex e12 hr2)
        refine Evl.ev_is (v := .bl (isK p.2 "tuple" && wordsG p.2 2 3)) (Evl.ev_andV (ev_isG (Evl.ev_var rfl) hr3) fun ht => ?_) (by rw [hp]; rfl)
        rw [isK_tup] at ht
        cases c : p.2 with
        | tup ws =>
          rw [c] at hr3
          obtain ⟨k2, a2, xs2, rfl, e2, hs2, hl2, p2⟩ := itsG_of (K := K) (g := .tup ws) rfl hr3
          have e2 : v = .ref a2 := e2
          subst e2
          exact spB_ev (Evl.ea_cons (Evl.ev_var rfl) (Evl.ea_cons Evl.ev_c (Evl.ea_cons Evl.ev_c Evl.ea_nil))) fun H5 e5 => ⟨a2, xs2, ws, m, k2, _, 2, 3, rfl, hs2.imp (Evl.ex_l e5) (Evl.ex_t e5), pair_imp p2 fun a b h => rp_ex e5 h, by omega, hm, by decide, rfl⟩
        | _ => rw [c] at ht; cases ht
end
end Pk

namespace Pk
open PySem PySem.Spec PyProof.Rows L2 Ssb
open Evl (Ex Ev EvT EvL EvA EvU)
def lsG (g : G) : List KG := (dicG g).getD []
def innersG (g : G) : Bool := (lsG g).all fun q => shapesG (atG q.2 "inner") 0
def outerOk (p : KG) : Bool := shapesG (atG p.2 "inner") 1 && innersG (atG p.2 "inner")
def listsG (g : G) : Bool := shapesG g 2 && (lsG g).all outerOk
def nmK : Key → Str
  | .inr s => s
  | .inl _ => Str.empty
theorem wdK_nm {k : Key} (h : wdK k = true) : k = Sum.inr (nmK k) := by
  cases k with
  | inl i => cases h
  | inr s => rfl
theorem has2 {g : G} (h : hasN g ["fields", "inner"] = true) : ∃ l, g = .dic l ∧ l.length = 2 ∧ (lkG l (Sum.inr "fields")).isSome = true ∧ (lkG l (Sum.inr "inner")).isSome = true := by
  cases g with
  | dic l =>
    have e : (decide (l.length = 2) && ((lkG l (Sum.inr "fields")).isSome && ((lkG l (Sum.inr "inner")).isSome && true))) = true := h
    simp only [Bool.and_eq_true, decide_eq_true_eq, and_true] at e
    exact ⟨l, rfl, e.1, e.2.1, e.2.2⟩
  | _ => cases h
theorem named_at {g : G} {mo : Int} (h : named g mo = true) : ∃ l, g = .dic l ∧ (l.length : Int) ≤ mo ∧ ∀ p ∈ l, wdK p.1 = true := by
  cases g with
  | dic l =>
    have e : (decide ((l.length : Int) ≤ mo) && l.all fun p => wdK p.1) = true := h
    simp only [Bool.and_eq_true, decide_eq_true_eq, List.all_eq_true] at e
    exact ⟨l, rfl, e.1, e.2⟩
  | _ => cases h
theorem shapes_at {g : G} {mo : Int} (h : shapesG g mo = true) : ∃ l, g = .dic l ∧ (l.length : Int) ≤ mo ∧ ∀ p ∈ l, wdK p.1 = true ∧ hasN p.2 ["fields", "inner"] = true := by
  unfold shapesG at h
  rw [Bool.and_eq_true] at h
  obtain ⟨l, rfl, h1, h2⟩ := named_at h.1
  have h3 : (l.all fun p => hasN p.2 ["fields", "inner"]) = true := h.2
  rw [List.all_eq_true] at h3
  exact ⟨l, rfl, h1, fun p hp => ⟨h2 p hp, h3 p hp⟩⟩
theorem lists_at {g : G} (h : listsG g = true) : ∃ l, g = .dic l ∧ l.length ≤ 2 ∧ ∀ p ∈ l, wdK p.1 = true ∧ hasN p.2 ["fields", "inner"] = true ∧ ∃ li, atG p.2 "inner" = .dic li ∧ li.length ≤ 1 ∧ ∀ q ∈ li, wdK q.1 = true ∧ hasN q.2 ["fields", "inner"] = true ∧ atG q.2 "inner" = .dic [] := by
  unfold listsG at h
  rw [Bool.and_eq_true] at h
  obtain ⟨l, rfl, h1, h2⟩ := shapes_at h.1
  have h3 : l.all outerOk = true := h.2
  rw [List.all_eq_true] at h3
  refine ⟨l, rfl, by omega, fun p hp => ⟨(h2 p hp).1, (h2 p hp).2, ?_⟩⟩
  have h4 := h3 p hp
  unfold outerOk at h4
  rw [Bool.and_eq_true] at h4
  obtain ⟨li, e, hl, h5⟩ := shapes_at h4.1
  refine ⟨li, e, by omega, fun q hq => ⟨(h5 q hq).1, (h5 q hq).2, ?_⟩⟩
  have h6 := h4.2
  unfold innersG at h6
  rw [e] at h6
  have h7 := List.all_eq_true.mp h6 q hq
  obtain ⟨l0, e0, hl0, _⟩ := shapes_at h7
  have : l0 = [] := List.eq_nil_of_length_eq_zero (by omega)
  rw [e0, this]
theorem all_no {α : Type} {l : List α} {f : α → Bool} {x : α} (h : x ∈ l) (hf : f x = false) : l.all f = false := by
  cases c : l.all f with
  | false => rfl
  | true => rw [List.all_eq_true.mp c x h] at hf; cases hf
section
variable {P : Program} {w : World} {K : PySem.W.Frag} {mg : Str → Option Value} {base : Heap} {C_Shape C_InvalidShape C_InvalidData C_StayError : Addr}
def preLists : List V → Hp → Bool → Prop := fun vs H b => ∃ (v : V) (m n : Nat) (S : Addr → Prop) (g : G), vs = [v] ∧ Rp H m n S g v ∧ m ≤ 100000 ∧ b = listsG g
theorem ok_are_lists (T : Txt K mg C_Shape C_InvalidShape C_InvalidData C_StayError) (R : Prg K mg C_Shape C_InvalidShape C_InvalidData C_StayError) : ∃ f fd, Fn P w K mg base "are_lists" 4 ["lists"] (spB preLists) f fd := by
  obtain ⟨_, _, G_are_list_shapes⟩ := ok_are_list_shapes (P := P) (w := w) (base := base) T R
  obtain ⟨f, fd, at_, F, kp⟩ := R.are_lists
  refine ⟨f, fd, F.ok sc_are_lists (fun vs H Q E h => ?_) (fun cdv A outer s H vs Q E hr h => ?_), at_, kp, F.binds (fun _ _ _ _ _ _ us hl => match us, hl with | [_], _ => rfl)⟩
  · obtain ⟨b, ⟨v, m, n, S, g, rfl, _⟩, _⟩ := h; rfl
  · obtain ⟨b, ⟨v, m, n, S, g, rfl, hg, hm, rfl⟩, k⟩ := h
    refine ⟨_, (pss_cons (ps_if (pt_not (pt_val (pcl G_are_list_shapes hr (pa_cons (pv 0) (pa_cons pe_int pa_nil))))) (pss_one (ps_ret pe_bl)) pss_nil)
  (pss_cons (ps_lock (ps_for PassesOwn.never rfl (pi_values (pv 0)) (pg_name (i := 1) sc_are_lists.nd rfl (Or.inl rfl))
    (pss_cons (ps_if (pt_not (pt_val (pcl G_are_list_shapes hr (pa_cons (pe_dget (hu_of hr) (pv 1) pe_str (fun _ _ => rfl)) (pa_cons pe_int pa_nil))))) (pss_one (ps_ret pe_bl)) pss_nil)
  (pss_one (ps_if (pt_not (pt_val (pe_callB (r := rAll K) (cr_all rfl) (by rfl) T.all (by decide +kernel) (pa_cons (pe_lock (pe_lc (own := [("inner", 2)]) rfl sc_are_lists.nd (pi_values (pe_dget (hu_of hr) (pv 1) pe_str (fun _ _ => rfl))) (blkOk_by (own := [("inner", 2)]) (N := ["lists", "outer", "inner"]) (sc := defScope s_are_lists) (by decide +kernel)) (fun _ _ _ _ _ => (pg_name (i := 2) sc_are_lists.nd rfl (Or.inl rfl))) (fun _ _ _ _ _ => pts_nil) (fun _ _ _ _ _ => (pcl G_are_list_shapes hr (pa_cons (pe_dget (hu_of hr) (pv 2) pe_str (fun _ _ => rfl)) (pa_cons pe_int pa_nil)))))) pa_nil)))) (pss_one (ps_ret pe_bl)) pss_nil)))))
  (pss_one (ps_ret pe_bl)))), ?_⟩
    refine Evl.q_when (b := !shapesG g 2) (Evl.et_not (Evl.et_B (spB_ev (Evl.ea_cons (Evl.ev_var rfl) (Evl.ea_cons Evl.ev_c Evl.ea_nil)) fun H3 e3 => ⟨v, m, n, S, g, 2, rfl, rp_ex e3 hg, hm, rfl⟩))) (fun hb H1 e1 => ?_) fun hb H1 e1 => ?_
    · have hb : shapesG g 2 = false := by simpa using hb
      exact Evl.s_ret (v := .bl (listsG g)) (Evl.ev_is Evl.ev_c (by unfold listsG; rw [hb]; rfl)) fun H2 e2 => k H2 (e1.trans e2)
    · have hb : shapesG g 2 = true := by simpa using hb
      obtain ⟨l, rfl, l2, hall⟩ := shapes_at hb
      have ev : listsG (.dic l) = l.all outerOk := by unfold listsG; rw [hb]; rfl
      rw [ev] at k
      obtain ⟨n, d, es, rfl, rfl, _, hda, hl, le, okk, _, pr⟩ := rp_dic hg
      have hd1 := e1 _ _ hda
      refine for_lock (J := fun od => Itd d od es) (xs := fun _ => none) hd1 (fun od R r => ⟨_, rfl, d, od, es, rfl, upd_same, r⟩) (fun od => walk_values) (fun od j σ' H' => ∃ (o1 : Option V), σ' = [some (.ref d), o1, none] ∧ Ex (upd H1 d (.frz od (.dK es))) H' ∧ ∀ p ∈ l.take j, outerOk p = true)
        (fun od => ⟨_, rfl, Ex.refl _, fun p hp => by simp at hp⟩) (fun od j σ' H' _ ⟨_, _, e, _⟩ => e _ _ upd_same) (fun od j x σ' H0 H' hlt pv y => ?_) fun od σ' H' pv => ?_
      · obtain ⟨o1, rfl, e, hdone⟩ := pv
        obtain ⟨rfl, kk, hkv⟩ := y
        obtain ⟨p, hp, hk, hr2⟩ := pair_back pr hkv
        have pm := List.mem_of_getElem? hp
        obtain ⟨l', ep, _, _, hin⟩ := has2 (hall p pm).2
        have hr3 := rp_in hd1 e (rp_ex e1 hr2)
        rw [ep] at hr3
        obtain ⟨n, xa, xes, rfl, ex, _, hxa, _, _, _, _, prx⟩ := rp_dic hr3
        have ex : x = .ref xa := ex
        subst ex
        obtain ⟨iv, hiv, hri⟩ := rp_get prx hin
        have stop : ∀ {Hx : Hp}, Ex H' Hx → outerOk p = false → Hx d = some (.frz od (.dK es)) ∧ Q (.bl false) (upd Hx d (.dK es)) := fun {Hx} ex hf => by
          refine ⟨ex _ _ (e _ _ upd_same), ?_⟩
          have := k (upd Hx d (.dK es)) (e1.trans (unlock hd1 (e.trans ex)))
          rw [all_no pm hf] at this
          exact this
        rw [← ep] at hri
        refine Evl.q_when (b := !shapesG (atG p.2 "inner") 1) (Evl.et_not (Evl.et_B (spB_ev (Evl.ea_cons (ev_get (Evl.ev_var rfl) Evl.ev_c (.inl hxa) hiv) (Evl.ea_cons Evl.ev_c Evl.ea_nil)) fun H3 e3 => ⟨iv, m, n, _, _, 1, rfl, rp_ex e3 hri, hm, rfl⟩))) (fun hb H2 e2 => ?_) fun hb H2 e2 => ?_
        · have hb : shapesG (atG p.2 "inner") 1 = false := by simpa using hb
          exact Evl.s_ret Evl.ev_c fun H3 e3 => stop (e2.trans e3) (by unfold outerOk; rw [hb]; rfl)
        · have hb : shapesG (atG p.2 "inner") 1 = true := by simpa using hb
          obtain ⟨li, ei, li1, hall2⟩ := shapes_at hb
          have ei2 : innersG (atG p.2 "inner") = li.all fun q => shapesG (atG q.2 "inner") 0 := by unfold innersG; rw [ei]; rfl
          rw [ei] at hri
          obtain ⟨n, ia, ies, rfl, ex2, Si, hia, hli, lei, _, _, pri⟩ := rp_dic hri
          subst ex2
          have nix : ia ≠ xa := Si.2
          have hia2 := e2 _ _ hia
          have hxa2 := e2 _ _ hxa
          refine Evl.s_when (b := !innersG (atG p.2 "inner")) (Evl.et_not (Evl.et_B (Evl.ev_is (ev_allG (l := li) (g := fun q => shapesG (atG q.2 "inner") 0) (f := fun i => (li[i]?.map fun q => shapesG (atG q.2 "inner") 0).getD false) lei (el_lcV (fun H5 e5 od2 => ev_get (Evl.ev_var rfl) Evl.ev_c (.inl (by rw [upd_ne nix.symm]; exact e5 _ _ hxa2)) hiv) hia2 (by omega) (fun _ => rfl) fun i x v hx od2 H5 H6 e5 e6 => ?_) (fun i d hd => by rw [hd]; rfl)) (by rw [ei2])))) (fun hb2 H3 e3 => ?_) fun hb2 H3 e3 => ?_
          · obtain ⟨q, hq, hx1, hr4⟩ := pair_back pri hx
            obtain ⟨l3, eq, _, _, hin3⟩ := has2 (hall2 q (List.mem_of_getElem? hq)).2
            have e25 := e2.trans e5
            have hr5 := rp_in (e25 _ _ hia) e6 (rp_ex e25 hr4)
            rw [eq] at hr5
            obtain ⟨n, ya, yes, rfl, ey, _, hya, _, _, _, _, pry⟩ := rp_dic hr5
            have ey : v = .ref ya := ey
            subst ey
            obtain ⟨jv, hjv, hrj⟩ := rp_get pry hin3
            rw [← eq] at hrj
            exact Evl.ev_is (spB_ev (Evl.ea_cons (ev_get (Evl.ev_var rfl) Evl.ev_c (.inl hya) hjv) (Evl.ea_cons Evl.ev_c Evl.ea_nil)) fun H7 e7 => ⟨jv, m, n, _, _, 0, rfl, rp_ex e7 hrj, hm, rfl⟩) (by rw [hq]; rfl)
          · have hb2 : innersG (atG p.2 "inner") = false := by simpa using hb2
            exact Evl.s_ret Evl.ev_c fun H4 e4 => stop (e2.trans (e3.trans e4)) (by unfold outerOk; rw [hb, hb2]; rfl)
          · have hb2 : innersG (atG p.2 "inner") = true := by simpa using hb2
            refine ⟨_, rfl, e.trans (e2.trans e3), fun q hq => ?_⟩
            rw [List.take_add_one, hp] at hq
            rcases List.mem_append.mp hq with hq | hq
            · exact hdone q hq
            · have : q = p := by simpa using hq
              subst this
              unfold outerOk; rw [hb, hb2]; rfl
      · obtain ⟨o1, rfl, e, hdone⟩ := pv
        rw [le, List.take_of_length_le (Nat.le_refl _)] at hdone
        have := k (upd H' d (.dK es)) (e1.trans (unlock hd1 e))
        rw [List.all_eq_true.mpr hdone] at this
        exact this
/-! ### list_rows -/
end
abbrev RoG := Str × Option Str × G
def oVG : Option Str → V
  | none => .non
  | some x => .str x
def rowsOfG (p : KG) : List RoG := (nmK p.1, none, atG p.2 "fields") :: (lsG (atG p.2 "inner")).map fun q => (nmK q.1, some (nmK p.1), atG q.2 "fields")
def rowsG (l : List KG) : List RoG := l.flatMap rowsOfG
def RowG (H H' : Hp) (m n : Nat) (S : Addr → Prop) (r : RoG) (x : V) : Prop := ∃ a fv, x = .ref a ∧ H' a = some (.tup [.str r.1, oVG r.2.1, fv]) ∧ Rp H m n S r.2.2 fv
theorem rowG_to {H H' H2 : Hp} {m n : Nat} {S : Addr → Prop} {r : RoG} {x : V} (k : ∀ a xs, H' a = some (.tup xs) → H2 a = some (.tup xs)) (h : RowG H H' m n S r x) : RowG H H2 m n S r x := by
  obtain ⟨a, fv, e, ha, hr⟩ := h; exact ⟨a, fv, e, k a _ ha, hr⟩
theorem upd_tup {H : Hp} {d : Addr} {o u : HO} (hd : H d = some o) (no : ∀ xs, o ≠ .tup xs) : ∀ a xs, H a = some (.tup xs) → (upd H d u) a = some (.tup xs) := fun a xs h => by
  by_cases e : a = d
  · subst e; rw [hd] at h; exact absurd (Option.some.inj h) (no xs)
  · rw [upd_ne e]; exact h
theorem Ex.both {H H' : Hp} {d : Addr} {u : HO} (e : Ex H H') : Ex (upd H d u) (upd H' d u) := fun b o hb => by
  by_cases h : b = d
  · rw [h] at hb ⊢; rw [upd_same] at hb ⊢; exact hb
  · rw [upd_ne h] at hb ⊢; exact e b o hb
theorem take_snocG {α : Type} {l : List α} {i : Nat} {x : α} (h : l[i]? = some x) : l.take (i + 1) = l.take i ++ [x] := by rw [List.take_add_one, h]; rfl
section
variable {P : Program} {w : World} {K : PySem.W.Frag} {mg : Str → Option Value} {base : Heap} {C_Shape C_InvalidShape C_InvalidData C_StayError : Addr}
def spRowsG : Sp := fun vs H Q _ => ∃ (v : V) (m n : Nat) (S : Addr → Prop) (l : List KG), vs = [v] ∧ Rp H m n S (.dic l) v ∧ listsG (.dic l) = true ∧
  ∀ H' p xs, Ex H H' → H p = none → H' p = some (.lst xs) → Paired (RowG H H' m n S) (rowsG l) xs → Q (.ref p) H'
theorem ok_list_rows (T : Txt K mg C_Shape C_InvalidShape C_InvalidData C_StayError) (R : Prg K mg C_Shape C_InvalidShape C_InvalidData C_StayError) : ∃ f fd, Fn P w K mg base "list_rows" 1 ["lists"] spRowsG f fd := by
  obtain ⟨f, fd, at_, F, kp⟩ := R.list_rows
  refine ⟨f, fd, F.ok sc_list_rows (fun vs H Q E h => ?_) (fun cdv A outer s H vs Q E hr h => ?_), at_, kp, F.binds (fun _ _ _ _ _ _ us hl => match us, hl with | [_], _ => rfl)⟩
  · obtain ⟨v, m, n, S, l, rfl, _⟩ := h; rfl
  · obtain ⟨v, m, n0, S, l, rfl, hv, hok, k⟩ := h
    obtain ⟨_, el, l2, hall⟩ := lists_at hok
    cases el
    obtain ⟨n, d, es, rfl, rfl, _, hd, _, le, okk, _, pr⟩ := rp_dic hv
    refine ⟨_, (pss_cons (ps_set (i := 1) sc_list_rows.nd rfl (Or.inl rfl) (pe_lst pa_nil))
  (pss_cons (ps_lock (ps_for PassesOwn.never rfl (pi_items (pv 0)) (show PG _ _ (gTup K 2 _) from pg_tup (n := 2) rfl (pgs_cons (pg_name (i := 2) sc_list_rows.nd rfl (Or.inl rfl)) (pgs_cons (pg_name (i := 3) sc_list_rows.nd rfl (Or.inl rfl)) pgs_nil)))
    (pss_cons (ps_expr (show PE _ _ (tBM K _ _ _ _) from pe_bm PySem.F.plainAttrs_list PySem.F.slot_list_append PySem.F.type_list_append mt_append (pv 1) (pa_cons (pe_tup (pa_cons (pv 2) (pa_cons pe_non (pa_cons (pe_dget (hu_of hr) (pv 3) pe_str (fun _ _ => rfl)) pa_nil)))) pa_nil)))
  (pss_one (ps_lock (ps_for PassesOwn.never rfl (pi_items (pe_dget (hu_of hr) (pv 3) pe_str (fun _ _ => rfl))) (show PG _ _ (gTup K 2 _) from pg_tup (n := 2) rfl (pgs_cons (pg_name (i := 4) sc_list_rows.nd rfl (Or.inl rfl)) (pgs_cons (pg_name (i := 5) sc_list_rows.nd rfl (Or.inl rfl)) pgs_nil)))
    (pss_one (ps_expr (show PE _ _ (tBM K _ _ _ _) from pe_bm PySem.F.plainAttrs_list PySem.F.slot_list_append PySem.F.type_list_append mt_append (pv 1) (pa_cons (pe_tup (pa_cons (pv 4) (pa_cons (pv 2) (pa_cons (pe_dget (hu_of hr) (pv 5) pe_str (fun _ _ => rfl)) pa_nil)))) pa_nil))))))))))
  (pss_one (ps_ret (pv 1))))), ?_⟩
    refine Evl.q_asgL (Evl.el_lst Evl.ea_nil (by decide)) fun r H1 hr0 e1 hr1 => ?_
    have hd1 := e1 _ _ hd
    have ndr : r ≠ d := fun e => by rw [e, hd] at hr0; cases hr0
    refine for_lock (J := fun od => Iti d od es) (xs := fun _ => none) hd1 (fun od G g => ⟨_, rfl, d, od, es, rfl, upd_same, g⟩) (fun od => walk_items)
      (fun od i σ' H' => ∃ x2 x3 x4 x5 acc, σ' = [some (.ref d), some (.ref r), x2, x3, x4, x5] ∧ Ex (upd H d (.frz od (.dK es))) H' ∧ H' r = some (.lst acc) ∧ acc.length ≤ 2 * i ∧ Paired (RowG H H' m (n + 1) S) (rowsG (l.take i)) acc)
      (fun od => ⟨_, _, _, _, [], rfl, Ex.both e1, by rw [upd_ne ndr]; exact hr1, Nat.zero_le _, .nil⟩) (fun od i σ' H' _ ⟨_, _, _, _, _, _, e, _⟩ => e _ _ upd_same) (fun od i x σ' H' H2 hi ⟨x2, x3, x4, x5, acc, eσ, e, hacc, hlen, hrows⟩ y => ?_) fun od σ' H' ⟨x2, x3, x4, x5, acc, eσ, e, hacc, hlen, hrows⟩ => ?_
    · subst eσ
      obtain ⟨Tp, x1, v1, rfl, nT, rfl, hx1, hv1⟩ := y
      have hx1 : Option.map (fun kv : Key × V => kV kv.1) es[i]? = some x1 := hx1
      have hv1 : Option.map Prod.snd es[i]? = some v1 := hv1
      cases hes : es[i]? with
      | none => rw [hes] at hx1; cases hx1
      | some kv =>
      rw [hes] at hx1 hv1
      obtain ⟨key, vv⟩ := kv
      obtain ⟨p, hp, hk1, hr2⟩ := pair_back pr hes
      obtain ⟨wk, hs2, li, eli, li1, hall2⟩ := hall p (List.mem_of_getElem? hp)
      obtain ⟨l', ep, _, hfl, hin⟩ := has2 hs2
      have hk1 : key = p.1 := hk1
      have ex1 : x1 = .str (nmK p.1) := by rw [← Option.some.inj hx1, hk1, wdK_nm wk]; rfl
      have ev1 : vv = v1 := Option.some.inj hv1
      subst ex1; subst ev1
      have hr2 : Rp H m n (fun b => S b ∧ b ≠ d) p.2 vv := hr2
      rw [ep] at hr2
      obtain ⟨n, de, ee, rfl, hde0, ⟨_, nde⟩, hde, _, _, _, _, pe⟩ := rp_dic hr2
      subst hde0
      obtain ⟨vf, hvf, hrf⟩ := rp_get pe hfl
      obtain ⟨vi, hvi, hri⟩ := rp_get pe hin
      rw [← ep] at hrf hri
      have step : ∀ {Hx : Hp}, Ex H' Hx → ∀ {a : Addr} {o : HO}, H a = some o → a ≠ d → Hx a = some o := fun ex a o ha hne => ex a o (e a o (by rw [upd_ne hne]; exact ha))
      have nTr : Tp ≠ r := fun z => by rw [z, hacc] at nT; cases nT
      refine ⟨Tp, [.str (nmK p.1), .ref de], rfl, Evl.st_of upd_same, rfl, _, _, rfl, _, _, rfl, rfl, ?_⟩
      have eT : Ex H' (upd H' Tp (.tup [.str (nmK p.1), .ref de])) := Ex.new nT
      refine Evl.q_appU (l := r) (eT _ _ hacc) (Evl.ev_var rfl) (Evl.eu_tup (Evl.ea_cons (Evl.ev_var rfl) (Evl.ea_cons Evl.ev_c (Evl.ea_cons (ev_get (Evl.ev_var rfl) Evl.ev_c (.inl (step eT hde nde)) hvf) Evl.ea_nil))) (by show 3 ≤ 100000; decide)) (by omega) fun tp H3 htp0 e3 htp => ?_
      have htr : tp ≠ r := fun z => by rw [z, eT _ _ hacc] at htp0; cases htp0
      rw [eli] at hri
      obtain ⟨n, di, ei, rfl, hdi0, ⟨⟨_, ndi⟩, ndie⟩, hdi, _, lei, _, _, pri⟩ := rp_dic hri
      have ndir : di ≠ r := fun z => by rw [z, hr0] at hdi; cases hdi
      subst hdi0
      have e4 : Ex (upd H d (.frz od (.dK es))) (upd H3 r (.lst (acc ++ [.ref tp]))) := Ex.mut (e.trans (eT.trans e3)) (by rw [upd_ne ndr]; exact hr0)
      have hdi4 : (upd H3 r (.lst (acc ++ [.ref tp]))) di = some (.dK ei) := e4 _ _ (by rw [upd_ne ndi]; exact hdi)
      have hde4 : (upd H3 r (.lst (acc ++ [.ref tp]))) de = some (.dK ee) := e4 _ _ (by rw [upd_ne nde]; exact hde)
      have rows4 : Paired (RowG H (upd H3 r (.lst (acc ++ [.ref tp]))) m (n + 1 + 1 + 1) S) (rowsG (l.take i) ++ [(nmK p.1, none, atG p.2 "fields")]) (acc ++ [.ref tp]) := by
        have tt : ∀ a xs, H3 a = some (.tup xs) → (upd H3 r (.lst (acc ++ [.ref tp]))) a = some (.tup xs) := upd_tup (e3 _ _ (eT _ _ hacc)) (fun xs h => nomatch h)
        exact pair_snoc (pair_imp hrows fun a b h => rowG_to (fun a xs h => tt a xs (e3 _ _ (eT _ _ h))) h) ⟨tp, vf, rfl, tt _ _ htp, rp_up (by omega) (Nat.le_refl _) (rp_S (fun b hb => hb.1.1) hrf)⟩
      refine for_lock (J := fun od2 => Iti di od2 ei) (xs := fun _ => none) hdi4 (fun od2 G g => ⟨.ref de, rfl, de, .ref di, rfl, .inl ⟨ee, Sum.inr "inner", .inl (by rw [upd_ne ndie.symm]; exact hde4), rfl, hvi.symm⟩, di, od2, ei, rfl, upd_same, g⟩) (fun od2 => walk_items)
        (fun od2 j σ' H5 => ∃ y4 y5 acc2, σ' = [some (.ref d), some (.ref r), some (.str (nmK p.1)), some (.ref de), y4, y5] ∧ Ex (upd (upd H d (.frz od (.dK es))) di (.frz od2 (.dK ei))) H5 ∧ H5 r = some (.lst acc2) ∧ acc2.length ≤ 2 * i + 1 + j ∧ Paired (RowG H H5 m (n + 1 + 1 + 1) S) (rowsG (l.take i) ++ (nmK p.1, none, atG p.2 "fields") :: (li.take j).map fun q => (nmK q.1, some (nmK p.1), atG q.2 "fields")) acc2)
        (fun od2 => ?_) (fun od2 j σ' H5 _ ⟨_, _, _, _, e5, _⟩ => e5 _ _ upd_same) (fun od2 j x σ' H5 H6 hj ⟨y4, y5, acc2, eσ, e5, hacc2, hlen2, hrows2⟩ y => ?_) fun od2 σ' H5 ⟨y4, y5, acc2, eσ, e5, hacc2, hlen2, hrows2⟩ => ?_
      · exact ⟨_, _, acc ++ [.ref tp], rfl, Ex.both e4, by rw [upd_ne ndir.symm, upd_same], by rw [List.length_append, List.length_singleton]; omega, pair_imp rows4 fun a b h => rowG_to (upd_tup hdi4 (fun xs h => nomatch h)) h⟩
      · subst eσ
        obtain ⟨Tq, x1, v1, rfl, nT2, rfl, hx1, hv1⟩ := y
        have hx1 : Option.map (fun kv : Key × V => kV kv.1) ei[j]? = some x1 := hx1
        have hv1 : Option.map Prod.snd ei[j]? = some v1 := hv1
        cases hei : ei[j]? with
        | none => rw [hei] at hx1; cases hx1
        | some kv =>
        rw [hei] at hx1 hv1
        obtain ⟨key, vv⟩ := kv
        obtain ⟨q, hq, hk2, hr3⟩ := pair_back pri hei
        obtain ⟨wq, hs3, _⟩ := hall2 q (List.mem_of_getElem? hq)
        obtain ⟨l3, eq, _, hfl2, _⟩ := has2 hs3
        have hk2 : key = q.1 := hk2
        have ex2 : x1 = .str (nmK q.1) := by rw [← Option.some.inj hx1, hk2, wdK_nm wq]; rfl
        have ev2 : vv = v1 := Option.some.inj hv1
        subst ex2; subst ev2
        have hr3 : Rp H m n (fun b => (((S b ∧ b ≠ d) ∧ b ≠ de) ∧ b ≠ di)) q.2 vv := hr3
        rw [eq] at hr3
        obtain ⟨n, dj, ej, rfl, hdj0, ⟨⟨⟨_, ndj⟩, ndje⟩, ndji⟩, hdj, _, _, _, _, pj⟩ := rp_dic hr3
        subst hdj0
        obtain ⟨vg, hvg, hrg⟩ := rp_get pj hfl2
        rw [← eq] at hrg
        refine ⟨Tq, [.str (nmK q.1), .ref dj], rfl, Evl.st_of upd_same, rfl, _, _, rfl, _, _, rfl, rfl, ?_⟩
        have eT2 : Ex H5 (upd H5 Tq (.tup [.str (nmK q.1), .ref dj])) := Ex.new nT2
        refine Evl.s_appU (l := r) (eT2 _ _ hacc2) (Evl.ev_var rfl) (Evl.eu_tup (Evl.ea_cons (Evl.ev_var rfl) (Evl.ea_cons (Evl.ev_var rfl) (Evl.ea_cons (ev_get (Evl.ev_var rfl) Evl.ev_c (.inl (eT2 _ _ (e5 _ _ (by rw [upd_ne ndji, upd_ne ndj]; exact hdj)))) hvg) Evl.ea_nil))) (by show 3 ≤ 100000; decide)) (by omega) fun tq H7 htq0 e7 htq => ?_
        have r5 : (upd (upd H d (.frz od (.dK es))) di (.frz od2 (.dK ei))) r = none := by rw [upd_ne ndir.symm, upd_ne ndr]; exact hr0
        refine ⟨_, _, acc2 ++ [.ref tq], rfl, Ex.mut (e5.trans (eT2.trans e7)) r5, upd_same, by rw [List.length_append, List.length_singleton]; omega, ?_⟩
        have tt : ∀ a xs, H7 a = some (.tup xs) → (upd H7 r (.lst (acc2 ++ [.ref tq]))) a = some (.tup xs) := upd_tup (e7 _ _ (eT2 _ _ hacc2)) (fun xs h => nomatch h)
        rw [take_snocG hq, List.map_append]
        have := pair_snoc (pair_imp hrows2 fun a b h => rowG_to (fun a xs h => tt a xs (e7 _ _ (eT2 _ _ h))) h) (a := (nmK q.1, some (nmK p.1), atG q.2 "fields")) (b := V.ref tq) ⟨tq, vg, rfl, tt _ _ htq, rp_up (by omega) (Nat.le_refl _) (rp_S (fun b hb => hb.1.1.1.1) hrg)⟩
        rw [List.append_assoc] at this
        exact this
      · subst eσ
        refine ⟨_, _, _, _, acc2, rfl, ?_, by rw [upd_ne ndir.symm]; exact hacc2, by omega, ?_⟩
        · exact unlock (by rw [upd_ne ndi]; exact hdi) e5
        · have ez : rowsG (l.take (i + 1)) = rowsG (l.take i) ++ (nmK p.1, none, atG p.2 "fields") :: (li.take ei.length).map fun q => (nmK q.1, some (nmK p.1), atG q.2 "fields") := by
            rw [take_snocG hp, List.take_of_length_le (l := li) (by omega)]
            unfold rowsG
            rw [List.flatMap_append, List.flatMap_singleton]
            have : rowsOfG p = (nmK p.1, none, atG p.2 "fields") :: li.map fun q => (nmK q.1, some (nmK p.1), atG q.2 "fields") := by unfold rowsOfG; rw [eli]; rfl
            rw [this]
          rw [ez]
          exact pair_imp hrows2 fun a b h => rowG_to (upd_tup (e5 _ _ upd_same) (fun xs h => nomatch h)) h
    · subst eσ
      rw [le, List.take_of_length_le (Nat.le_refl _)] at hrows
      exact Evl.s_ret (Evl.ev_var rfl) fun H7 e7 => k H7 r acc ((unlock hd e).trans e7) hr0 (e7 _ _ (by rw [upd_ne ndr]; exact hacc)) (pair_imp hrows fun a b h => rowG_to (fun a xs h => e7 a _ (upd_tup (e _ _ upd_same) (fun xs h => nomatch h) a xs h)) h)
end
end Pk

namespace Pk
open PySem PySem.Spec PyProof.Rows L2 Ssb
open Evl (Ex Ev EvT EvL EvA EvU)
def wrongG (g1 g2 : G) : Option Str :=
  if (!(isLstG g1 || isTupG g1) || !wordsG g1 0 2) = true then some ("flags" : Str)
  else if (!listsG g2) = true then some ("lists" : Str)
  else if (!(rowsG (lsG g2)).all fun r => fieldsG r.2.2) = true then some ("fields" : Str)
  else if ((rowsG (lsG g2)).map fun r : RoG => r.1).Nodup then none else some ("names" : Str)
theorem rowG_unp {H H' : Hp} {K : PySem.W.Frag} {m n : Nat} {S : Addr → Prop} {r : RoG} {x : V} {i j k : Nat} (h : RowG H H' m n S r x) :
    ∃ fv, Rp H m n S r.2.2 fv ∧ ∀ {vs : List Nat} {σ : L2.St} (H2 : Hp), Ex H' H2 → (∀ y1 y2 y3, wipe ((((wipe σ vs).set i y1).set j y2).set k y3) vs = wipe σ vs) → Unp (gTup K 3 (gCons (gName i) (gCons (gName j) (gCons (gName k) gNil)))) vs σ ((((wipe σ vs).set i (some (.str r.1))).set j (some (oVG r.2.1))).set k (some fv)) x H2 := by
  obtain ⟨a, fv, rfl, ha, hr⟩ := h
  exact ⟨fv, hr, fun H2 e2 hw => ⟨hw _ _ _, fun Kont q => ⟨a, _, rfl, Evl.st_of (e2 _ _ ha), rfl, _, _, rfl, _, _, rfl, _, _, rfl, rfl, q⟩⟩⟩
theorem rows_few : ∀ {l : List KG}, (∀ p ∈ l, (lsG (atG p.2 "inner")).length ≤ 1) → (rowsG l).length ≤ 2 * l.length
  | [], _ => Nat.le_refl _
  | p :: l, h => by
    have i1 := rows_few (l := l) fun q hq => h q (List.mem_cons_of_mem _ hq)
    have i2 := h p List.mem_cons_self
    show (rowsOfG p ++ rowsG l).length ≤ 2 * (l.length + 1)
    rw [List.length_append]
    have : (rowsOfG p).length = (lsG (atG p.2 "inner")).length + 1 := by simp [rowsOfG]
    omega
theorem rows_four {l : List KG} (h : listsG (.dic l) = true) : (rowsG l).length ≤ 4 := by
  obtain ⟨_, e, l2, hall⟩ := lists_at h
  cases e
  have := rows_few (l := l) fun p hp => by
    obtain ⟨_, _, li, eli, li1, _⟩ := hall p hp
    rw [eli]; exact li1
  omega
section
variable {P : Program} {w : World} {K : PySem.W.Frag} {mg : Str → Option Value} {base : Heap} {C_Shape C_InvalidShape C_InvalidData C_StayError : Addr}
theorem kit_seq (g : G) : PySem.W.kitAny K (.type (gT g)) [.type "list", .type "tuple"] = some (isLstG g || isTupG g) := by
  have h1 := kit_some g (T := "list") (by decide)
  have h2 := kit_some g (T := "tuple") (by decide)
  rw [isK_lst] at h1
  rw [isK_tup] at h2
  cases c : isLstG g with
  | true =>
    rw [c] at h1
    exact kitAny_cons (b := true) (kit_ty h1) (fun h => nomatch h) fun _ => rfl
  | false =>
    rw [c] at h1
    cases c2 : isTupG g with
    | true =>
      rw [c2] at h2
      exact kitAny_cons (b := false) (kit_ty h1) (fun _ => kitAny_cons (b := true) (kit_ty h2) (fun h => nomatch h) fun _ => rfl) fun h => nomatch h
    | false =>
      rw [c2] at h2
      exact kitAny_cons (b := false) (kit_ty h1) (fun _ => kitAny_cons (b := false) (kit_ty h2) (fun _ => rfl) fun h => nomatch h) fun h => nomatch h
def spWrong : Sp := fun vs H Q _ => ∃ (v1 v2 : V) (m n : Nat) (S1 S2 : Addr → Prop) (g1 g2 : G), vs = [v1, v2] ∧ Rp H m n S1 g1 v1 ∧ Rp H m n S2 g2 v2 ∧ m ≤ 100000 ∧ ∀ H', Ex H H' → Q (oVG (wrongG g1 g2)) H'
theorem ok_wrong_part (T : Txt K mg C_Shape C_InvalidShape C_InvalidData C_StayError) (R : Prg K mg C_Shape C_InvalidShape C_InvalidData C_StayError) : ∃ f fd, Fn P w K mg base "wrong_part" 5 ["flags", "lists"] spWrong f fd := by
  obtain ⟨_, _, G_are_words⟩ := ok_are_words (P := P) (w := w) (base := base) T R
  obtain ⟨_, _, G_are_lists⟩ := ok_are_lists (P := P) (w := w) (base := base) T R
  obtain ⟨_, _, G_are_fields⟩ := ok_are_fields (P := P) (w := w) (base := base) T R
  obtain ⟨_, _, G_list_rows⟩ := ok_list_rows (P := P) (w := w) (base := base) T R
  obtain ⟨f, fd, at_, F, kp⟩ := R.wrong_part
  refine ⟨f, fd, F.ok sc_wrong_part (fun vs H Q E h => ?_) (fun cdv A outer s H vs Q E hr h => ?_), at_, kp, F.binds (fun _ _ _ _ _ _ us hl => match us, hl with | [_, _], _ => rfl)⟩
  · obtain ⟨v1, v2, m, n, S1, S2, g1, g2, rfl, _⟩ := h; rfl
  · obtain ⟨v1, v2, m, n, S1, S2, g1, g2, rfl, h1, h2, hm, k⟩ := h
    refine ⟨_, (pss_cons (ps_if (PW.pt (pw_or (pt_not (pt_val (pe_callB (r := rIsiT K) call_isiT (by rfl) T.isinstance (by decide +kernel) (pa_cons (pv 0) (pa_cons (pe_tup (pa_cons (pe_bltn (v := .ty "list") (by rfl) T.list boot_list rfl) (pa_cons (pe_bltn (v := .ty "tuple") (by rfl) T.tuple boot_tuple rfl) pa_nil))) pa_nil))))) (pw_or1 (pt_not (pt_val (pcl G_are_words hr (pa_cons (pv 0) (pa_cons pe_int (pa_cons pe_int pa_nil))))))))) (pss_one (ps_ret pe_str)) pss_nil)
  (pss_cons (ps_if (pt_not (pt_val (pcl G_are_lists hr (pa_cons (pv 1) pa_nil)))) (pss_one (ps_ret pe_str)) pss_nil)
  (pss_cons (ps_set (i := 2) sc_wrong_part.nd rfl (Or.inl rfl) (pcl G_list_rows hr (pa_cons (pv 1) pa_nil)))
  (pss_cons (ps_if (pt_not (pt_val (pe_callB (r := rAll K) (cr_all rfl) (by rfl) T.all (by decide +kernel) (pa_cons (pe_lc (own := [("name", 3), ("parent", 4), ("fields", 5)]) rfl sc_wrong_part.nd (show PI _ _ _ (iList K _) from pi_list (pv 2)) (blkOk_by (own := [("name", 3), ("parent", 4), ("fields", 5)]) (N := ["flags", "lists", "rows", "name", "parent", "fields"]) (sc := defScope s_wrong_part) (by decide +kernel)) (fun _ _ _ _ _ => (show PG _ _ (gTup K 3 _) from pg_tup (n := 3) rfl (pgs_cons (pg_name (i := 3) sc_wrong_part.nd rfl (Or.inl rfl)) (pgs_cons (pg_name (i := 4) sc_wrong_part.nd rfl (Or.inl rfl)) (pgs_cons (pg_name (i := 5) sc_wrong_part.nd rfl (Or.inl rfl)) pgs_nil))))) (fun _ _ _ _ _ => pts_nil) (fun _ _ _ _ _ => (pcl G_are_fields hr (pa_cons (pv 5) pa_nil)))) pa_nil)))) (pss_one (ps_ret pe_str)) pss_nil)
  (pss_cons (ps_if (pt_cmpR op_lt (pe_callB call_lenTxs (by rfl) T.len (by decide +kernel) (pa_cons (pe_scT (own := [("name", 3), ("parent", 4), ("fields", 5)]) rfl sc_wrong_part.nd (show PI _ _ _ (iList K _) from pi_list (pv 2)) (blkOk_by (own := [("name", 3), ("parent", 4), ("fields", 5)]) (N := ["flags", "lists", "rows", "name", "parent", "fields"]) (sc := defScope s_wrong_part) (by decide +kernel)) (fun _ _ _ _ _ => (show PG _ _ (gTup K 3 _) from pg_tup (n := 3) rfl (pgs_cons (pg_name (i := 3) sc_wrong_part.nd rfl (Or.inl rfl)) (pgs_cons (pg_name (i := 4) sc_wrong_part.nd rfl (Or.inl rfl)) (pgs_cons (pg_name (i := 5) sc_wrong_part.nd rfl (Or.inl rfl)) pgs_nil))))) (fun _ _ _ _ _ => pts_nil) (fun _ _ _ _ _ => (pv 3))) pa_nil)) (pe_callB (r := rLenA K) call_len (by rfl) T.len (by decide +kernel) (pa_cons (pv 2) pa_nil)) (nomark _)) (pss_one (ps_ret pe_str)) pss_nil)
  (pss_one (ps_ret pe_non))))))), ?_⟩
    refine Evl.q_when (b := !(isLstG g1 || isTupG g1) || !wordsG g1 0 2) (Evl.et_or (Evl.et_not (Evl.et_B (ev_isi2 (Evl.ev_var rfl) (fun H1 e1 => .base (rp_ty (rp_ex e1 h1))) (kit_seq g1)))) fun hb => Evl.et_not (Evl.et_B ?_)) (fun hb H1 e1 => ?_) fun hb H1 e1 => ?_
    · have hi : ∃ l, itsG g1 = some l := by
        cases g1 with
        | lst l => exact ⟨l, rfl⟩
        | tup l => exact ⟨l, rfl⟩
        | _ => cases hb
      obtain ⟨l, hl⟩ := hi
      obtain ⟨k2, a, xs, rfl, rfl, hs, hlen, pr⟩ := itsG_of (K := K) hl h1
      have ew : wordsG g1 0 2 = wordsL l 0 2 := by unfold wordsG; rw [hl]; rfl
      exact spB_ev (Evl.ea_cons (Evl.ev_var rfl) (Evl.ea_cons Evl.ev_c (Evl.ea_cons Evl.ev_c Evl.ea_nil))) fun H1 e1 => ⟨a, xs, l, m, k2, S1, 0, 2, rfl, hs.imp (Evl.ex_l e1) (Evl.ex_t e1), pair_imp pr fun a b h => rp_ex e1 h, by omega, hm, by decide, ew⟩
    · have e : wrongG g1 g2 = some ("flags" : Str) := by unfold wrongG; rw [if_pos hb]
      rw [e] at k
      exact Evl.s_ret Evl.ev_c fun H2 e2 => k H2 (e1.trans e2)
    have w1 : wrongG g1 g2 = if (!listsG g2) = true then some ("lists" : Str) else if (!(rowsG (lsG g2)).all fun r => fieldsG r.2.2) = true then some ("fields" : Str) else if ((rowsG (lsG g2)).map fun r : RoG => r.1).Nodup then none else some ("names" : Str) := by
      unfold wrongG; rw [if_neg (by rw [hb]; exact fun h => nomatch h)]
    rw [w1] at k
    clear w1 hb
    refine Evl.q_when (b := !listsG g2) (Evl.et_not (Evl.et_B (spB_ev (Evl.ea_cons (Evl.ev_var rfl) Evl.ea_nil) fun H2 e2 => ⟨v2, m, n, S2, g2, rfl, rp_ex (e1.trans e2) h2, hm, rfl⟩))) (fun hb H2 e2 => ?_) fun hb H2 e2 => ?_
    · rw [if_pos hb] at k
      exact Evl.s_ret Evl.ev_c fun H3 e3 => k H3 (e1.trans (e2.trans e3))
    rw [if_neg (by rw [hb]; exact fun h => nomatch h)] at k
    have hl : listsG g2 = true := by simpa using hb
    obtain ⟨l, rfl, _, _⟩ := lists_at hl
    have r4 := rows_four hl
    have k : ∀ (H' : Hp), Ex H H' → Q (oVG (if (!(rowsG l).all fun r => fieldsG r.2.2) = true then some ("fields" : Str) else if ((rowsG l).map fun r : RoG => r.1).Nodup then none else some ("names" : Str))) H' := k
    refine ⟨_, rfl, v2, m, n, S2, l, rfl, rp_ex (e1.trans e2) h2, hl, fun H3 p xs e3 np hp hrows => ?_⟩
    have lx := pair_len hrows
    have row : ∀ (i : Nat) (x : V), xs[i]? = some x → ∃ r, (rowsG l)[i]? = some r ∧ RowG H2 H3 m n S2 r x := fun i x hx => pair_back hrows hx
    refine Evl.q_when (b := !(rowsG l).all fun r => fieldsG r.2.2) (Evl.et_not (Evl.et_B (ev_allG (l := rowsG l) (n := xs.length) (g := fun r => fieldsG r.2.2) (f := fun i => ((rowsG l)[i]?.map fun r => fieldsG r.2.2).getD false) lx.symm (el_lcG (Evl.ev_var rfl) (Evl.sq_of hp) (by omega) fun i x hx H4 e4 => ?_) (fun i d hd => by rw [hd]; rfl)))) (fun hb H4 e4 => ?_) fun hb H4 e4 => ?_
    · obtain ⟨r, hr1, hr2⟩ := row i x hx
      obtain ⟨fv, hf, hu⟩ := rowG_unp (K := K) hr2 (i := 3) (j := 4) (k := 5)
      exact ⟨_, hu H4 e4 (by intro _ _ _; rfl), fun H5 e5 => Evl.ev_is (spB_ev (Evl.ea_cons (Evl.ev_var rfl) Evl.ea_nil) fun H6 e6 => ⟨fv, m, n, S2, r.2.2, rfl, rp_ex (e3.trans (e5.trans e6)) hf, hm, rfl⟩) (by rw [hr1]; rfl)⟩
    · rw [if_pos hb] at k
      exact Evl.s_ret Evl.ev_c fun H5 e5 => k H5 (e1.trans (e2.trans (e3.trans (e4.trans e5))))
    rw [if_neg (by rw [hb]; exact fun h => nomatch h)] at k
    refine Evl.q_when (b := !decide ((rowsG l).map fun r : RoG => r.1).Nodup) (Evl.et_test (Evl.ev_is (Evl.ev_op (ex_scG (nms := (rowsG l).map fun r : RoG => r.1) (Evl.ev_var rfl) (Evl.sq_of (e4 _ _ hp)) (by rw [List.length_map]; exact lx) (by omega) fun i x hx => ?_) (ev_lenL (Evl.ev_var rfl) (.inl (Evl.sq_of (e4 _ _ hp)))) Evl.rv_I0) ?_)) (fun hb H5 e5 => ?_) fun hb H5 e5 => ?_
    · obtain ⟨r, hr1, hr2⟩ := row i x hx
      refine ⟨r.1, by rw [List.getElem?_map, hr1]; rfl, fun H5 e5 => ?_⟩
      obtain ⟨fv, hf, hu⟩ := rowG_unp (K := K) hr2 (i := 3) (j := 4) (k := 5)
      exact ⟨_, hu H5 (e4.trans e5) (by intro _ _ _; rfl), fun H6 e6 => Evl.ev_var rfl⟩
    · have ml := met_len ((rowsG l).map fun r : RoG => r.1) []
      have me := met_len_eq (l := (rowsG l).map fun r : RoG => r.1)
      simp only [List.length_nil, List.length_map] at ml me
      rw [← me, ← lx]
      have : decide (((met [] ((rowsG l).map fun r : RoG => r.1)).length : Int) < ((rowsG l).length : Int)) = !decide ((met [] ((rowsG l).map fun r : RoG => r.1)).length = (rowsG l).length) := by
        by_cases c : (met [] ((rowsG l).map fun r : RoG => r.1)).length = (rowsG l).length
        · rw [decide_eq_true c, c]; simp
        · rw [decide_eq_false c, decide_eq_true (by omega)]; rfl
      rw [this]
    · rw [if_neg (by simpa using hb)] at k
      exact Evl.s_ret Evl.ev_c fun H6 e6 => k H6 (e1.trans (e2.trans (e3.trans (e4.trans (e5.trans e6)))))
    · rw [if_pos (by simpa using hb)] at k
      exact Evl.s_ret Evl.ev_c fun H6 e6 => k H6 (e1.trans (e2.trans (e3.trans (e4.trans (e5.trans e6)))))
end
end Pk

namespace Pk
open PySem PySem.Spec PyProof.Rows L2 Ssb
open Evl (Ex Ev EvT EvL EvA EvU)
section
variable {P : Program} {w : World} {K : PySem.W.Frag} {mg : Str → Option Value} {base : Heap} {C_Shape C_InvalidShape C_InvalidData C_StayError : Addr}
def spKeep (C : Addr) (n : Str) : Sp := fun vs H Q _ => ∃ (a : Addr) (y : V), vs = [.ref a, y] ∧ H a = some (exo a C none) ∧ ∀ dx, H dx = none → dx ≠ a → Q .non (upd (upd H dx (exd dx [(n, y)])) a (exo a C (some dx)))
theorem ok_InvalidShape_init (T : Txt K mg C_Shape C_InvalidShape C_InvalidData C_StayError) (R : Prg K mg C_Shape C_InvalidShape C_InvalidData C_StayError) : ∃ f fd, Mt P w K mg base C_InvalidShape "__init__" 1 ["self", "part"] (spKeep C_InvalidShape "part") f fd ∧ PySem.W.typeIn K (.ref f) = some (.type "function") := by
  obtain ⟨f, fd, F, fi, isf, kp⟩ := R.InvalidShape_init
  refine ⟨f, fd, ⟨F.ok sc_InvalidShape_init (fun vs H Q E h => ?_) (fun cdv A outer s H vs Q E hr h => ?_), ⟨fi, isf, kp⟩, F.binds (fun _ _ _ _ _ _ us hl => match us, hl with | [_, _], _ => rfl)⟩, ?_⟩
  · obtain ⟨a, y, rfl, _⟩ := h; rfl
  · obtain ⟨a, y, rfl, ha, k⟩ := h
    exact ⟨_, pss_one (ps_osE (pv 0) (pv 1)), _, rfl, _, rfl, a, C_InvalidShape, rfl, T.ox_InvalidShape, T.no_InvalidShape_part, ha, k⟩
  · have h := isf
    unfold PySem.W.isFn at h
    exact beq_iff_eq.mp h
theorem made_heap {H : Hp} {a d C : Addr} {n : Str} {y : V} (ha : H a = none) (hd : H d = none) (ne : d ≠ a) : upd (del (upd (upd (upd H a (exo a C none)) d (exd d [(n, y)])) a (exo a C (some d))) a) d (.xd [(n, y)]) = upd H d (.xd [(n, y)]) := by
  funext b
  by_cases h1 : b = d
  · rw [h1, upd_same, upd_same]
  · rw [upd_ne h1, upd_ne h1]
    by_cases h2 : b = a
    · rw [h2, del_same, ha]
    · rw [del_ne h2, upd_ne h2, upd_ne h1, upd_ne h2]
/-- Shape(flags, lists) of what is no shape -/
def spInitX (CE : Addr) : Sp := fun vs H _ E => ∃ (p : Addr) (v1 v2 : V) (m n : Nat) (S1 S2 : Addr → Prop) (g1 g2 : G) (part : Str), vs = [.ref p, v1, v2] ∧ Rp H m n S1 g1 v1 ∧ Rp H m n S2 g2 v2 ∧ m ≤ 100000 ∧ wrongG g1 g2 = some part ∧ ∀ H' d, Ex H H' → H' d = none → E (.ref CE) (some d) (upd H' d (.xd [("part", .str part)]))
theorem ok_Shape_initX (T : Txt K mg C_Shape C_InvalidShape C_InvalidData C_StayError) (R : Prg K mg C_Shape C_InvalidShape C_InvalidData C_StayError) : ∃ f fd, MtX P w K mg base C_Shape "__init__" 6 ["self", "flags", "lists"] (spInitX C_InvalidShape) f fd := by
  obtain ⟨_, _, G_wrong_part⟩ := ok_wrong_part (P := P) (w := w) (base := base) T R
  obtain ⟨_, _, G_InvalidShape, tI⟩ := ok_InvalidShape_init (P := P) (w := w) (base := base) T R
  obtain ⟨f, fd, F, fi, isf, kp⟩ := R.Shape_init
  refine ⟨f, fd, F.okX sc_Shape_init (fun vs H Q E h => ?_) (fun cdv A outer s H vs Q E hr h => ?_), ⟨fi, isf, kp⟩, F.binds (fun _ _ _ _ _ _ us hl => match us, hl with | [_, _, _], _ => rfl)⟩
  · obtain ⟨p, v1, v2, m, n, S1, S2, g1, g2, part, rfl, _⟩ := h; rfl
  · obtain ⟨p, v1, v2, m, n, S1, S2, g1, g2, part, rfl, h1, h2, hm, hw, k⟩ := h
    refine ⟨_, (pss_cons (ps_set (i := 3) sc_Shape_init.nd rfl (Or.inl rfl) (pcl G_wrong_part hr (pa_cons (pv 1) (pa_cons (pv 2) pa_nil))))
      (pss_cons (ps_if (pt_cmpR op_notN (pv 3) pe_non (nomark _)) (pss_one (ps_raise rfl (takes_of rfl rfl rfl rfl) (pmk_oexE T.ox_InvalidShape G_InvalidShape tI hr T.at_InvalidShape (pa_cons (pv 3) pa_nil)))) pss_nil) pss_never)), ?_⟩
    refine ⟨_, rfl, _, rfl, v1, v2, m, n, S1, S2, g1, g2, rfl, h1, h2, hm, fun H1 e1 => ?_⟩
    rw [hw]
    refine ⟨_, rfl, rfl, _, rfl, iteT ?_⟩
    refine ⟨_, rfl, (by show 1 ≤ 1000; decide), fun a ha => ⟨a, .str part, rfl, upd_same, fun d hd ne => ⟨rfl, d, [("part", .str part)], upd_same, ?_, ?_, ?_⟩⟩⟩
    · rw [upd_ne ne, upd_same]
    · rw [upd_ne ne] at hd; exact hd
    · rw [upd_ne ne] at hd
      rw [made_heap ha hd ne]
      exact k H1 d e1 hd
/-- Shape(flags, lists) of what is a shape: an instance -/
def spInitG (C : Addr) : Sp := fun vs H Q _ => ∃ (p dx : Addr) (v1 v2 : V) (m n : Nat) (S1 S2 : Addr → Prop) (g1 g2 : G), vs = [.ref p, v1, v2] ∧ H p = some (.ins C dx []) ∧ Rp H m n S1 g1 v1 ∧ Rp H m n S2 g2 v2 ∧ ¬ S2 p ∧ m ≤ 100000 ∧ wrongG g1 g2 = none ∧
  ∀ H' fs, (∀ b o, b ≠ p → H b = some o → H' b = some o) → H' p = some (.ins C dx fs) → Q .non H'
theorem wrong_none {g1 g2 : G} (h : wrongG g1 g2 = none) : (∃ l, itsG g1 = some l ∧ wordsL l 0 2 = true) ∧ ∃ l, g2 = .dic l ∧ listsG (.dic l) = true ∧ (∀ r ∈ rowsG l, fieldsG r.2.2 = true) ∧ ((rowsG l).map fun r : RoG => r.1).Nodup := by
  unfold wrongG at h
  by_cases c1 : (!(isLstG g1 || isTupG g1) || !wordsG g1 0 2) = true
  · rw [if_pos c1] at h; cases h
  rw [if_neg c1] at h
  by_cases c2 : (!listsG g2) = true
  · rw [if_pos c2] at h; cases h
  rw [if_neg c2] at h
  have hl : listsG g2 = true := by
    cases c : listsG g2 with
    | true => rfl
    | false => rw [c] at c2; exact absurd rfl c2
  obtain ⟨l, rfl, _⟩ := lists_at hl
  by_cases c3 : (!(rowsG (lsG (.dic l))).all fun r => fieldsG r.2.2) = true
  · rw [if_pos c3] at h; cases h
  rw [if_neg c3] at h
  by_cases c4 : ((rowsG (lsG (.dic l))).map fun r : RoG => r.1).Nodup
  · refine ⟨?_, l, rfl, hl, ?_, c4⟩
    · cases hi : itsG g1 with
      | none => exact absurd (by
          have : wordsG g1 0 2 = false := by unfold wordsG; rw [hi]; rfl
          rw [this]; simp) c1
      | some l1 =>
        refine ⟨l1, rfl, ?_⟩
        cases cw : wordsL l1 0 2 with
        | true => rfl
        | false => exact absurd (by
            have : wordsG g1 0 2 = false := by unfold wordsG; rw [hi]; exact cw
            rw [this]; simp) c1
    · have : (rowsG l).all (fun r => fieldsG r.2.2) = true := by
        cases c : (rowsG l).all (fun r => fieldsG r.2.2) with
        | true => rfl
        | false => exact absurd (by show (!(rowsG l).all fun r => fieldsG r.2.2) = true; rw [c]; rfl) c3
      exact List.all_eq_true.mp this
  · rw [if_neg c4] at h; cases h
theorem ok_Shape_init (T : Txt K mg C_Shape C_InvalidShape C_InvalidData C_StayError) (R : Prg K mg C_Shape C_InvalidShape C_InvalidData C_StayError) : ∃ f fd, Mt P w K mg base C_Shape "__init__" 6 ["self", "flags", "lists"] (spInitG C_Shape) f fd := by
  obtain ⟨_, _, G_wrong_part⟩ := ok_wrong_part (P := P) (w := w) (base := base) T R
  obtain ⟨_, _, G_list_rows⟩ := ok_list_rows (P := P) (w := w) (base := base) T R
  obtain ⟨f, fd, F, fi, isf, kp⟩ := R.Shape_init
  refine ⟨f, fd, F.ok sc_Shape_init (fun vs H Q E h => ?_) (fun cdv A outer s H vs Q E hr h => ?_), ⟨fi, isf, kp⟩, F.binds (fun _ _ _ _ _ _ us hl => match us, hl with | [_, _, _], _ => rfl)⟩
  · obtain ⟨p, dx, v1, v2, m, n, S1, S2, g1, g2, rfl, _⟩ := h; rfl
  · obtain ⟨p, dx, v1, v2, m, n, S1, S2, g1, g2, rfl, hp, h1, h2, nSp, hm, hw, k⟩ := h
    obtain ⟨⟨l1, hi, hw1⟩, l, rfl, hl, hfs, hnd⟩ := wrong_none hw
    have r4 := rows_four hl
    refine ⟨_, (pss_cons (ps_set (i := 3) sc_Shape_init.nd rfl (Or.inl rfl) (pcl G_wrong_part hr (pa_cons (pv 1) (pa_cons (pv 2) pa_nil))))
  (pss_cons (ps_if (pt_cmpR op_notN (pv 3) pe_non (nomark _)) (pss_one ps_never) pss_nil)
  (pss_cons (ps_fld (pv 0) (pe_callTy (r := rTupA K) call_tuple_of (by rfl) T.tuple (by decide +kernel) (pa_cons (pe_callB (r := rSortedS K) cr_sortedS (by rfl) T.sorted (by decide +kernel) (pa_cons (pe_callTy (r := rListA K) call_list_of (by rfl) T.list (by decide +kernel) (pa_cons (pv 1) pa_nil)) pa_nil)) pa_nil)) rfl)
  (pss_one (ps_fld (pv 0) (pe_dc (own := [("name", 4), ("parent", 5), ("fields", 6)]) rfl sc_Shape_init.nd (show PI _ _ _ (iList K _) from pi_list (pcl G_list_rows hr (pa_cons (pv 2) pa_nil))) (blkOk_by (own := [("name", 4), ("parent", 5), ("fields", 6)]) (N := ["self", "flags", "lists", "part", "name", "parent", "fields"]) (sc := defScope s_Shape_init) (by decide +kernel)) (fun _ _ _ _ _ => (show PG _ _ (gTup K 3 _) from pg_tup (n := 3) rfl (pgs_cons (pg_name (i := 4) sc_Shape_init.nd rfl (Or.inl rfl)) (pgs_cons (pg_name (i := 5) sc_Shape_init.nd rfl (Or.inl rfl)) (pgs_cons (pg_name (i := 6) sc_Shape_init.nd rfl (Or.inl rfl)) pgs_nil))))) (fun _ _ _ _ _ => pts_nil) (fun _ _ _ _ _ => (pv 4)) (fun _ _ _ _ _ => (pe_tup (pa_cons (pv 5) (pa_cons (pe_callTy call_dictD (by rfl) T.dict (by decide +kernel) (pa_cons (pv 6) pa_nil)) pa_nil))))) rfl))))), ?_⟩
    refine ⟨_, rfl, _, rfl, v1, v2, m, n, S1, S2, g1, .dic l, rfl, h1, h2, hm, fun H1 e1 => ?_⟩
    rw [hw]
    refine Evl.q_when (b := false) (Evl.et_is (Evl.et_test (Evl.ev_op (Evl.ev_var rfl) Evl.ev_c rv_notN)) rfl) (fun h => nomatch h) fun _ H2 e2 => ?_
    have e12 := e1.trans e2
    obtain ⟨k2, a, xs, rfl, rfl, hs, hlen, pr⟩ := itsG_of (K := K) hi h1
    have hw2 : (decide ((0 : Int) ≤ (l1.length : Int)) && decide ((l1.length : Int) ≤ 2)) = true ∧ (l1.all wdG && decide (strsG l1).Nodup) = true := by
      unfold wordsL at hw1; rw [Bool.and_eq_true] at hw1; exact hw1
    have few : l1.length ≤ 2 := by
      have := hw2.1
      simp only [Bool.and_eq_true, decide_eq_true_eq] at this; omega
    have c2 : l1.all wdG = true := by have := hw2.2; rw [Bool.and_eq_true] at this; exact this.1
    have el := words_strs c2
    have ls : (strsG l1).length = l1.length := by conv => rhs; rw [el]; rw [List.length_map]
    have ex : xs = (strsG l1).map V.str := by
      rw [el] at pr
      clear c2 few ls el hlen hs hw1 hw2 hi h1
      generalize strsG l1 = ws at pr
      induction ws generalizing xs with
      | nil => cases pr; rfl
      | cons y ws ih =>
        cases pr with
        | cons h t =>
          obtain ⟨n, rfl⟩ := rp_pos h
          rw [ih _ t, show _ = V.str y from h.1]; rfl
    subst ex
    refine ⟨_, rfl, a, (strsG l1).map V.str, rfl, hs.imp (Evl.ex_l e12) (Evl.ex_t e12), fun q hq => ?_⟩
    refine ⟨q, strsG l1, rfl, Evl.sq_of upd_same, by omega, fun ys q2 perm so hq2 => ?_⟩
    refine ⟨q2, ys.map V.str, rfl, .inl ⟨Evl.sq_of upd_same, fun ft hft => ?_⟩⟩
    have e3 : Ex H2 (upd (upd (upd H2 q (.lst ((strsG l1).map V.str))) q2 (.lst (ys.map V.str))) ft (.tup (ys.map V.str))) := (Ex.new hq).trans ((Ex.new hq2).trans (Ex.new hft))
    have e03 := e12.trans e3
    generalize (upd (upd (upd H2 q (.lst ((strsG l1).map V.str))) q2 (.lst (ys.map V.str))) ft (.tup (ys.map V.str))) = H3 at e3 e03 ⊢
    refine ⟨_, rfl, p, C_Shape, dx, [], rfl, e03 _ _ hp, T.cl_Shape, T.no_Shape_flags, (by show 0 < 1000; decide), ?_⟩
    have e4 : ∀ b o, b ≠ p → H b = some o → (upd H3 p (.ins C_Shape dx (putF "flags" (.ref ft) []))) b = some o := fun b o nb hb => by rw [upd_ne nb]; exact e03 _ _ hb
    have hv4 : Rp (upd H3 p (.ins C_Shape dx (putF "flags" (.ref ft) []))) m (k2 + 1) S2 (.dic l) v2 := rp_to (fun b o hb hs => e4 b o (fun e => by
      rcases hs with hs | ⟨xs, rfl⟩
      · rw [e] at hs; exact nSp hs
      · rw [e, hp] at hb; cases hb) hb) h2
    have hp4 : (upd H3 p (.ins C_Shape dx (putF "flags" (.ref ft) []))) p = some (.ins C_Shape dx (putF "flags" (.ref ft) [])) := upd_same
    generalize (upd H3 p (.ins C_Shape dx (putF "flags" (.ref ft) []))) = H4 at e4 hv4 hp4 ⊢
    refine ⟨_, rfl, v2, m, _, S2, l, rfl, hv4, hl, fun H5 rp xs e5 nrp hrp hrows => ?_⟩
    have lx := pair_len hrows
    refine ⟨rp, rfl, ⟨xs, Evl.sq_of hrp⟩, fun Dl hD => ?_⟩
    refine ⟨fun i mm H' => mm = xs.length - i ∧ i ≤ xs.length ∧ Ex H5 H' ∧ ∃ es, H' Dl = some (.dK es) ∧ (es.map fun e : Key × V => e.1) = (((rowsG l).map fun r : RoG => r.1).take i).map Sum.inr, ⟨xs.length, by simp, Nat.zero_le _, Ex.new hD, [], upd_same, rfl⟩, ?_⟩
    rintro i mm H' ⟨rfl, hi2, e6, es, hes, pes⟩
    have sq : SqL K H' rp xs := Evl.sq_of (e6 _ _ hrp)
    by_cases hlt : i < xs.length
    · refine .inr ⟨⟨xs, xs[i], sq, by simp [hlt]⟩, fun H' => Ex H5 H' ∧ ∃ es, H' Dl = some (.dK es) ∧ (es.map fun e : Key × V => e.1) = (((rowsG l).map fun r : RoG => r.1).take (i + 1)).map Sum.inr, fun H' p' => ⟨xs.length - (i + 1), by omega, rfl, hlt, p'⟩, fun x H'' y => ?_⟩
      obtain ⟨rfl, y⟩ := y
      obtain ⟨r, hr1, ra, fv, rfl, hra, hfv⟩ := pair_back hrows (y xs sq)
      have hff := hfs r (List.mem_of_getElem? hr1)
      have hnm : named r.2.2 2 = true := by unfold fieldsG at hff; rw [Bool.and_eq_true] at hff; exact hff.1
      obtain ⟨fl, efl, _, _⟩ := named_at hnm
      rw [efl] at hfv
      obtain ⟨_, fa, fes, _, rfl, _, hfa, _⟩ := rp_dic (rp_ex (e5.trans e6) hfv)
      refine ⟨ra, _, rfl, Evl.st_of (e6 _ _ hra), rfl, _, _, rfl, _, _, rfl, _, _, rfl, rfl, rfl, ?_⟩
      refine yes_go ?_
      refine ⟨_, rfl, _, rfl, _, rfl, fa, fes, rfl, .inl hfa, fun fb hfb => ⟨(by show 2 ≤ sizeLine; decide), fun tp htp => ?_⟩⟩
      have e7 : Ex H'' (upd (upd H'' fb (.dK fes)) tp (.tup [oVG r.2.1, .ref fb])) := (Ex.new hfb).trans (Ex.new htp)
      have nfD : fb ≠ Dl := fun e => by rw [e, hes] at hfb; cases hfb
      have nDt : Dl ≠ tp := fun e => by rw [← e, upd_ne (Ne.symm nfD), hes] at htp; cases htp
      have hrn : ((rowsG l).map fun r : RoG => r.1)[i]? = some r.1 := by rw [List.getElem?_map, hr1]; rfl
      have ntab : valV es (Sum.inr r.1 : Key) = none := vK_no (by
        rw [pes]
        intro hm
        obtain ⟨z, hz, ez⟩ := List.mem_map.mp hm
        have ez := Sum.inr.inj ez
        subst ez
        have := List.take_append_drop i ((rowsG l).map fun r : RoG => r.1)
        rw [← this] at hnd
        have h3 := (List.nodup_append.mp hnd).2.2 _ hz r.1 (by
          rw [List.drop_eq_getElem_cons (by have := (List.getElem?_eq_some_iff.mp hrn).1; exact this)]
          have : ((rowsG l).map fun r : RoG => r.1)[i]'((List.getElem?_eq_some_iff.mp hrn).1) = r.1 := (List.getElem?_eq_some_iff.mp hrn).2
          rw [this]; exact List.mem_cons_self)
        exact h3 rfl)
      have hes2 : (upd (upd H'' fb (.dK fes)) tp (.tup [oVG r.2.1, .ref fb])) Dl = some (.dK es) := by rw [upd_ne nDt, upd_ne (Ne.symm nfD)]; exact hes
      have les : es.length ≤ 4 := by
        have := congrArg List.length pes
        simp only [List.length_map, List.length_take] at this
        omega
      refine ⟨es, Sum.inr r.1, rfl, hes2, Evl.sz_lt (by omega), Ex.mut (e6.trans e7) hD, es ++ [(Sum.inr r.1, .ref tp)], by rw [upd_same, putK_new _ ntab], ?_⟩
      rw [List.map_append, pes, take_snocG hrn, List.map_append]; rfl
    · have ei : i = xs.length := by omega
      subst ei
      refine .inl ⟨⟨xs, sq, Nat.le_refl _⟩, _, rfl, p, C_Shape, dx, _, rfl, e6 _ _ (e5 _ _ hp4), T.cl_Shape, T.no_Shape_table, (by show 1 < 1000; decide), ?_⟩
      exact k _ _ (fun b o nb hb => by rw [upd_ne nb]; exact e6 _ _ (e5 _ _ (e4 b o nb hb))) upd_same
end
end Pk

namespace Pk
open PySem PySem.Spec PyProof.Rows L2 Ssb
open Evl (Ex Ev EvT EvL EvA EvU)
/-- a word -/
def isW (s : Str) : Prop := 1 ≤ s.length ∧ s.length ≤ 8 ∧ ∀ c ∈ s.cps.toList, 97 ≤ c ∧ c ≤ 122
abbrev Fl := List (Str × List Str)
def flD (f : Fl) : D := .dic (f.map fun p => (p.1, .tup (p.2.map .str)))
def okFl (f : Fl) : Prop := f.length ≤ 2 ∧ (f.map (·.1)).Nodup ∧ ∀ p ∈ f, isW p.1 ∧ 2 ≤ p.2.length ∧ p.2.length ≤ 3 ∧ (∀ x ∈ p.2, isW x) ∧ p.2.Nodup
abbrev Sh := List (Str × Fl × List (Str × Fl))
def ls0 (d : D) (f : Fl) : Prop := ∃ l, d = .dic l ∧ l.length = 2 ∧ l.lookup ("fields" : Str) = some (flD f) ∧ l.lookup ("inner" : Str) = some (.dic [])
def ls1 (d : D) (f : Fl) (i : List (Str × Fl)) : Prop := ∃ l e, d = .dic l ∧ l.length = 2 ∧ l.lookup ("fields" : Str) = some (flD f) ∧ l.lookup ("inner" : Str) = some (.dic e) ∧ Paired (fun (p : Str × D) (q : Str × Fl) => p.1 = q.1 ∧ ls0 p.2 q.2) e i
def shD (d : D) (s : Sh) : Prop := ∃ l, d = .dic l ∧ Paired (fun (p : Str × D) (q : Str × Fl × List (Str × Fl)) => p.1 = q.1 ∧ ls1 p.2 q.2.1 q.2.2) l s
/-- the rows: a name, the name around it, the fields -/
abbrev Ro := Str × Option Str × Fl
def rowsOf (p : Str × Fl × List (Str × Fl)) : List Ro := (p.1, none, p.2.1) :: p.2.2.map fun q => (q.1, some p.1, q.2)
def rowsS (s : Sh) : List Ro := s.flatMap rowsOf
def okSh (s : Sh) : Prop := s.length ≤ 2 ∧ ((rowsS s).map (·.1)).Nodup ∧ ∀ p ∈ s, isW p.1 ∧ okFl p.2.1 ∧ p.2.2.length ≤ 1 ∧ ∀ q ∈ p.2.2, isW q.1 ∧ okFl q.2
def oV : Option Str → V
  | none => .non
  | some x => .str x
theorem rep_strs {H : Hp} {n : Nat} {S : Addr → Prop} : ∀ {ws : List Str} {xs : List V}, Paired (fun d x => Rep H n S d x) (ws.map D.str) xs → xs = ws.map V.str
  | [], _, .nil => rfl
  | y :: ws, _, .cons h t => by
    cases n with
    | zero => exact h.elim
    | succ n =>
    have h : _ = V.str y := h
    rw [rep_strs t, h]; rfl
theorem rep_words {H : Hp} {n : Nat} {S : Addr → Prop} {ws : List Str} {v : V} (h : Rep H n S (.tup (ws.map .str)) v) : ∃ a, v = .ref a ∧ H a = some (.tup (ws.map V.str)) := by
  cases n with
  | zero => exact h.elim
  | succ n =>
  obtain ⟨a, xs, e, ha, _, pr⟩ := h
  exact ⟨a, e, by rw [ha, rep_strs pr]⟩
/-- within a lock of d -/
theorem rep_in {H1 H2 : Hp} {n : Nat} {S : Addr → Prop} {x : D} {v : V} {d : Addr} {es : List (Key × V)} {u : HO} (hd : H1 d = some (.dK es)) (e2 : Ex (upd H1 d u) H2) (h : Rep H1 n (fun b => S b ∧ b ≠ d) x v) : Rep H2 n (fun b => S b ∧ b ≠ d) x v :=
  rep_ex e2 (rep_lock hd (fun _ z => z.2) h)
/-- an entry of a dict of data -/
theorem rep_entry {H : Hp} {n : Nat} {S : Addr → Prop} {l : List (Str × D)} {k : Str} {d : D} {a : Addr} {es : List (Key × V)} (pr : Paired (fun (q : Str × D) (e : Key × V) => e.1 = Sum.inr q.1 ∧ Rep H n (fun b => S b ∧ b ≠ a) q.2 e.2) l es) (hk : l.lookup k = some d) :
    ∃ v, valV es (Sum.inr k : Key) = some v ∧ Rep H n (fun b => S b ∧ b ≠ a) d v := pair_lk (F := fun d v => Rep H n (fun b => S b ∧ b ≠ a) d v) pr hk
theorem okSh_rows {s : Sh} (h : okSh s) : (rowsS s).length ≤ 4 ∧ ∀ r ∈ rowsS s, isW r.1 ∧ okFl r.2.2 := by
  obtain ⟨h2, _, hz⟩ := h
  refine ⟨?_, fun r hr => ?_⟩
  · have key : ∀ l : Sh, (∀ p ∈ l, p.2.2.length ≤ 1) → (rowsS l).length ≤ 2 * l.length := by
      intro l
      induction l with
      | nil => intro _; exact Nat.le_refl _
      | cons p l ih =>
        intro hl
        have i1 := ih fun q hq => hl q (List.mem_cons_of_mem _ hq)
        have i2 := hl p List.mem_cons_self
        show (rowsOf p ++ rowsS l).length ≤ 2 * (l.length + 1)
        rw [List.length_append]
        have : (rowsOf p).length = p.2.2.length + 1 := by simp [rowsOf]
        omega
    have := key s fun p hp => (hz p hp).2.2.1
    omega
  · obtain ⟨p, hp, hr⟩ := List.mem_flatMap.mp hr
    obtain ⟨w1, f1, _, hq⟩ := hz p hp
    rcases List.mem_cons.mp hr with rfl | hr
    · exact ⟨w1, f1⟩
    · obtain ⟨q, hq1, rfl⟩ := List.mem_map.mp hr
      exact hq q hq1
theorem map_range {α β : Type} {f : Nat → β} {g : α → β} : ∀ {l : List α} {n : Nat}, l.length = n → (∀ (i : Nat) (a : α), l[i]? = some a → f i = g a) → (List.range n).map f = l.map g := fun {l n} hn h => by
  refine List.ext_getElem? fun i => ?_
  rw [List.getElem?_map, List.getElem?_map]
  by_cases hi : i < n
  · have e : l[i]? = some (l[i]'(by omega)) := List.getElem?_eq_getElem (by omega)
    rw [e, List.getElem?_range hi]
    exact congrArg some (h i _ e)
  · have e : l[i]? = none := List.getElem?_eq_none_iff.mpr (by omega)
    rw [e, List.getElem?_eq_none_iff.mpr (by rw [List.length_range]; omega)]
    rfl
end Pk

namespace Pk
open PySem PySem.Spec PyProof.Rows L2 Ssb
open Evl (Ex Ev EvT EvL EvA EvU)
/-! ### the stream -/
def StAt (H : Hp) (S c : Addr) : Prop := S ≠ c ∧ ∃ (k : Int) (cs : List Int), H S = some (.lst [.ref c, .int k]) ∧ H c = some (.lst (cs.map V.int)) ∧ 0 < cs.length ∧ cs.length ≤ 63
/-- from H to H': the stream moved, all else stands -/
structure Mv (S c : Addr) (H H' : Hp) : Prop where
  a : StAt H S c
  z : StAt H' S c
  fr : ∀ b o, b ≠ S → b ≠ c → H b = some o → H' b = some o
theorem StAt.ex {S c : Addr} {H H' : Hp} (e : Ex H H') (h : StAt H S c) : StAt H' S c := by
  obtain ⟨n, k, cs, h1, h2, h3⟩ := h; exact ⟨n, k, cs, e _ _ h1, e _ _ h2, h3⟩
theorem Mv.ex {S c : Addr} {H H' : Hp} (a : StAt H S c) (e : Ex H H') : Mv S c H H' := ⟨a, a.ex e, fun b o _ _ h => e b o h⟩
theorem Mv.trans {S c : Addr} {H H' H2 : Hp} (m : Mv S c H H') (m2 : Mv S c H' H2) : Mv S c H H2 := ⟨m.a, m2.z, fun b o n1 n2 h => m2.fr b o n1 n2 (m.fr b o n1 n2 h)⟩
theorem Mv.tx {S c : Addr} {H H' H2 : Hp} (m : Mv S c H H') (e : Ex H' H2) : Mv S c H H2 := m.trans (.ex m.z e)
theorem StAt.someS {S c : Addr} {H : Hp} (a : StAt H S c) {b : Addr} (h : H b = none) : b ≠ S ∧ b ≠ c := by
  obtain ⟨n, k, cs, h1, h2, h3⟩ := a
  exact ⟨fun e => (by rw [e, h1] at h; cases h), fun e => (by rw [e, h2] at h; cases h)⟩
theorem Mv.back {S c : Addr} {H H' : Hp} (m : Mv S c H H') {b : Addr} (h : H' b = none) : H b = none := by
  obtain ⟨n1, n2⟩ := m.z.someS h
  cases e : H b with
  | none => rfl
  | some o => rw [m.fr b o n1 n2 e] at h; cases h
/-- an object that H does not know may change -/
theorem Mv.mut {S c : Addr} {H H' : Hp} {p : Addr} {o : HO} (m : Mv S c H H') (h : H p = none) : Mv S c H (upd H' p o) := by
  obtain ⟨n1, n2⟩ := m.a.someS h
  obtain ⟨n, k, cs, h1, h2, h3⟩ := m.z
  refine ⟨m.a, ⟨n, k, cs, by rw [upd_ne (Ne.symm n1)]; exact h1, by rw [upd_ne (Ne.symm n2)]; exact h2, h3⟩, fun b o' b1 b2 hb => ?_⟩
  have : b ≠ p := fun e => by rw [e, h] at hb; cases hb
  rw [upd_ne this]
  exact m.fr b o' b1 b2 hb
theorem Mv.new {S c : Addr} {H : Hp} {p : Addr} {o : HO} (a : StAt H S c) (h : H p = none) : Mv S c H (upd H p o) := .ex a (Ex.new h)
theorem rep_mv {S c : Addr} {H H' : Hp} (m : Mv S c H H') {n : Nat} {P : Addr → Prop} {d : D} {v : V} (n1 : ¬ P S) (n2 : ¬ P c) (h : Rep H n P d v) : Rep H' n P d v := by
  obtain ⟨_, k, cs, h1, h2, _⟩ := m.a
  refine rep_to (fun b o hb hp => m.fr b o (fun e => ?_) (fun e => ?_) hb) h
  · rw [e] at hp hb
    rcases hp with hp | ⟨xs, rfl⟩
    · exact n1 hp
    · rw [h1] at hb; cases hb
  · rw [e] at hp hb
    rcases hp with hp | ⟨xs, rfl⟩
    · exact n2 hp
    · rw [h2] at hb; cases hb
theorem Mv.tup {S c : Addr} {H H' : Hp} (m : Mv S c H H') {t : Addr} {xs : List V} (h : H t = some (.tup xs)) : H' t = some (.tup xs) := by
  obtain ⟨_, k, cs, h1, h2, _⟩ := m.a
  exact m.fr t _ (fun e => by rw [e, h1] at h; cases h) (fun e => by rw [e, h2] at h; cases h) h
theorem ev_int1 {te : TE} {σ : L2.St} {H : Hp} {i : Int} (h : Ev te σ H (.int i)) : Ev (tCB (fun xs H Q => (∃ i, xs = [V.int i] ∧ Q (.int i) H) ∨ ∃ k, xs = [V.bl k] ∧ Q (.int (if k then 1 else 0)) H) (tCons te tNil)) σ H (.int i) := fun H1 e Q q => h H1 e _ fun H2 e2 => .inl ⟨i, rfl, q H2 e2⟩
theorem at_get {α : Type} {xs : List α} {i : Int} (h0 : 0 ≤ i) (h1 : i < (xs.length : Int)) : ∃ v, xs[i.toNat]? = some v ∧ atI xs i = some v := by
  have h2 : i.toNat < xs.length := by omega
  refine ⟨xs[i.toNat], List.getElem?_eq_getElem h2, ?_⟩
  have := atI_nat (List.getElem?_eq_getElem h2)
  rw [show ((i.toNat : Nat) : Int) = i by omega] at this
  exact this
theorem shaped_ints (ns : List Int) : SeqAt.shaped (.list (ns.map PyData.int)) = true := by
  have h : PyData.canLayAll0 (ns.map PyData.int) = true ∧ PyData.depthAll (ns.map PyData.int) ≤ 1 := by
    induction ns with
    | nil => exact ⟨by simp [PyData.canLayAll0], by simp [PyData.depthAll]⟩
    | cons n ns ih => exact ⟨by simp [PyData.canLayAll0, PyData.canLay0, ih.1], by have := ih.2; simp [PyData.depthAll, PyData.depth]; omega⟩
  unfold SeqAt.shaped
  have h2 := h.2
  simp only [PyData.canLay0, PyData.depth, h.1, Bool.true_and]
  exact decide_eq_true (by omega)
theorem dp_ints {K : PySem.W.Frag} {H : Hp} {a : Addr} {ns : List Int} (h : SqL K H a (ns.map V.int)) : Dp K H (.ref a) (.list (ns.map PyData.int)) := by
  refine .lst h ?_
  clear h
  induction ns with
  | nil => exact .nil
  | cons n ns ih => exact .cons (.int n) ih
theorem el_lcN {K : PySem.W.Frag} {σ : L2.St} {H : Hp} {te tl : TE} {vs : List Nat} {j : Nat} {f : Nat → V} {xs : List V} (h : EvL tl σ H xs) (hz : xs.length ≤ 100000) (hw : ∀ x, wipe ((wipe σ vs).set j (some x)) vs = wipe σ vs)
    (he : ∀ (i : Nat) (x : V), xs[i]? = some x → ∀ H2, Ex H H2 → Ev te ((wipe σ vs).set j (some x)) H2 (f i)) : EvL (tLc (iList K tl) (gName j) tYes te vs) σ H ((List.range xs.length).map f) := fun H1 e Q q =>
  h H1 e _ fun a H2 ha e2 hx => ⟨a, rfl, ⟨xs, Evl.sq_of hx⟩, fun Dl hD =>
    el_walk (f := f) walk_list hz (fun H3 e3 => Evl.ex_l e3 (Evl.sq_of hx)) hw (fun i x h3 H3 e3 => he i x h3 H3 ((e.trans e2).trans e3)) (fun p H3 hp e3 hl => q p H3 (Evl.fresh_back e2 hp) (e2.trans e3) hl) Dl hD⟩
section
variable {P : Program} {w : World} {K : PySem.W.Frag} {mg : Str → Option Value} {base : Heap} {C_Shape C_InvalidShape C_InvalidData C_StayError : Addr}
def spStream (K : PySem.W.Frag) : Sp := fun vs H Q _ => ∃ (a : Addr) (ns : List Int), vs = [.ref a] ∧ SqL K H a (ns.map V.int) ∧ ∀ H' S c, StAt H' S c → Q (.ref S) H'
theorem ok__law_stream (T : Txt K mg C_Shape C_InvalidShape C_InvalidData C_StayError) (R : Prg K mg C_Shape C_InvalidShape C_InvalidData C_StayError) : ∃ f fd, Fn P w K mg base "_law_stream" 1 ["_law_script"] (spStream K) f fd := by
  obtain ⟨f, fd, at_, F, kp⟩ := R._law_stream
  refine ⟨f, fd, F.ok sc__law_stream (fun vs H Q E h => ?_) (fun cdv A outer s H vs Q E hr h => ?_), at_, kp, F.binds (fun _ _ _ _ _ _ us hl => match us, hl with | [_], _ => rfl)⟩
  · obtain ⟨a, ns, rfl, _⟩ := h; rfl
  · obtain ⟨a, ns, rfl, ha, k⟩ := h
    refine ⟨_, (pss_cons (ps_setLc (i := 1) (own := [("_law_cell", 2)]) rfl sc__law_stream.nd rfl rfl (sw_true rfl rfl rfl (by decide +kernel)) (show PI _ _ _ (iList K _) from pi_list (pe_slice (r := rSlL K) sl_list (pv 0) po_none (po_some pe_int))) (blkOk_by (own := [("_law_cell", 2)]) (N := ["_law_script", "_law_cells", "_law_cell"]) (sc := defScope s__law_stream) (by decide +kernel)) (fun _ _ _ _ _ => (pg_name (i := 2) sc__law_stream.nd rfl (Or.inl rfl))) (fun _ _ _ _ _ => pts_nil) (fun _ _ _ _ _ => (pe_callTy call_int1 (by rfl) T.int (by decide +kernel) (pa_cons (pv 2) pa_nil))))
  (Evl.pss_cut (ps_if (pt_cmpR (r := rEqD K) (op_eqD hr.units) (pv 1) (pe_lst pa_nil) (nomark _)) (pss_one (ps_set (i := 1) sc__law_stream.nd rfl (Or.inl rfl) (pe_lst (pa_cons pe_int pa_nil)))) pss_nil)
  (pss_one (ps_ret (pe_lst (pa_cons (pv 1) (pa_cons pe_int pa_nil))))))), ?_⟩
    obtain ⟨cs, hcs, c63⟩ : ∃ cs : List Int, cutV (ns.map V.int) none (some 63) = cs.map V.int ∧ cs.length ≤ 63 := by
      refine ⟨ns.take 63, ?_, by rw [List.length_take]; omega⟩
      unfold cutV
      rw [HT.sIx_none, show (some (63 : Int)) = some ((63 : Nat) : Int) from rfl, HT.sIx_nat, List.drop_zero, Nat.sub_zero, List.map_take]
      refine List.take_eq_take_iff.mpr ?_
      omega
    refine Evl.q_asgL (xs := cs.map V.int) ?_ fun p H1 hp e1 hp1 => ?_
    · have := el_lcN (K := K) (j := 2) (vs := [2]) (f := fun i => ((cs.map V.int)[i]?).getD .non) (te := tCB (fun xs H Q => (∃ i, xs = [V.int i] ∧ Q (.int i) H) ∨ ∃ k, xs = [V.bl k] ∧ Q (.int (if k then 1 else 0)) H) (tCons (tVar 2) tNil)) (hcs ▸ Evl.el_sl (σ := [some (.ref a), none, none]) (Evl.ev_var (i := 0) rfl) Evl.eo_none (Evl.eo_some Evl.ev_c) ha) (by rw [List.length_map]; omega) (fun _ => rfl) fun i x hx H2 e2 => ?_
      · rw [map_range (g := _root_.id) rfl (fun i a ha => by rw [ha]; rfl), List.map_id] at this
        exact this
      · rw [List.getElem?_map] at hx
        cases hy : cs[i]? with
        | none => rw [hy] at hx; cases hx
        | some y =>
        rw [hy] at hx
        cases hx
        refine Evl.ev_is (ev_int1 (i := y) (Evl.ev_var rfl)) ?_
        rw [List.getElem?_map, hy]; rfl
    · refine Evl.q_cut (M := fun σ' H' => ∃ (c : Addr) (cs : List Int) (o2 : Option V), σ' = [some (.ref a), some (.ref c), o2] ∧ H' c = some (.lst (cs.map V.int)) ∧ 0 < cs.length ∧ cs.length ≤ 63) ?_ ?_
      · refine ⟨_, rfl, (by show 0 ≤ sizeLine; decide), fun q hq => ?_⟩
        have e2 : Ex H1 (upd H1 q (.lst [])) := Ex.new hq
        refine ⟨_, _, dp_ints (ns := cs) (Evl.sq_of (e2 _ _ hp1)), dp_ints (ns := []) (Evl.sq_of upd_same), shaped_ints _, shaped_ints _, _, rfl, ?_⟩
        cases cs with
        | nil =>
          refine iteT ?_
          exact Evl.s_asgL (xs := [V.int 0]) (Evl.el_lst (Evl.ea_cons Evl.ev_c Evl.ea_nil) (by show 1 ≤ 100000; decide)) fun p2 H2 _ e3 hp2 => ⟨p2, [0], _, rfl, hp2, by decide, by decide⟩
        | cons x cs =>
          refine iteF ?_
          exact ⟨p, x :: cs, _, rfl, e2 _ _ hp1, by simp, c63⟩
      · rintro σ' H' ⟨c, cs, o2, rfl, hc, c0, c1⟩
        exact Evl.s_retL (xs := [.ref c, .int 0]) (Evl.el_lst (Evl.ea_cons (Evl.ev_var rfl) (Evl.ea_cons Evl.ev_c Evl.ea_nil)) (by show 2 ≤ 100000; decide)) fun q H2 hq e2 hq2 => k H2 q c ⟨fun e => (by rw [e, hc] at hq; cases hq), 0, cs, hq2, e2 _ _ hc, c0, c1⟩
def spDraw : Sp := fun vs H Q _ => ∃ (S c : Addr) (m : Int), vs = [.ref S, .int m] ∧ StAt H S c ∧ 1 ≤ m ∧ m < 1073741824 * 1073741824 ∧ ∀ H' r, Mv S c H H' → 0 ≤ r → r < m → Q (.int r) H'
theorem ok__law_draw (T : Txt K mg C_Shape C_InvalidShape C_InvalidData C_StayError) (R : Prg K mg C_Shape C_InvalidShape C_InvalidData C_StayError) : ∃ f fd, Fn P w K mg base "_law_draw" 1 ["_law_stream_here", "_law_many"] spDraw f fd := by
  obtain ⟨f, fd, at_, F, kp⟩ := R._law_draw
  refine ⟨f, fd, F.ok sc__law_draw (fun vs H Q E h => ?_) (fun cdv A outer s H vs Q E hr h => ?_), at_, kp, F.binds (fun _ _ _ _ _ _ us hl => match us, hl with | [_, _], _ => rfl)⟩
  · obtain ⟨S, c, m, rfl, _⟩ := h; rfl
  · obtain ⟨S, c, m, rfl, st, m1, m2, k⟩ := h
    obtain ⟨ne, k0, cs, hS, hc, c0, c63⟩ := id st
    refine ⟨_, (pss_cons (ps_set (i := 2) sc__law_draw.nd rfl (Or.inl rfl) (pe_ix (r := rIxL K) ix_list (pv 0) pe_int (fun _ _ => rfl)))
  (pss_cons (ps_set (i := 3) sc__law_draw.nd rfl (Or.inl rfl) (pe_ix (r := rIxL K) ix_list (pv 0) pe_int (fun _ _ => rfl)))
  (pss_cons (ps_asg (pe_op op_add (pv 3) pe_int) (pg_sub (pv 0) pe_int set_list))
  (pss_cons (ps_set (i := 4) sc__law_draw.nd rfl (Or.inl rfl) (pe_op op_mod (pe_callTy call_int1 (by rfl) T.int (by decide +kernel) (pa_cons (pv 3) pa_nil)) (pe_callB (r := rLenA K) call_len (by rfl) T.len (by decide +kernel) (pa_cons (pv 2) pa_nil))))
  (pss_cons (ps_set (i := 5) sc__law_draw.nd rfl (Or.inl rfl) (pe_ix (r := rIxL K) ix_list (pv 2) (pv 4) (fun _ _ => rfl)))
  (pss_cons (ps_if (pt_cmpR op_ge (pv 5) (pe_op op_pow pe_int pe_int) (nomark _)) (pss_cons (ps_asg (pe_op op_fdivW (pv 5) (pv 1)) (pg_sub (pv 2) (pv 4) set_list))
  (pss_one (ps_ret (pe_op op_mod (pe_callTy call_int1 (by rfl) T.int (by decide +kernel) (pa_cons (pv 5) pa_nil)) (pv 1))))) pss_nil)
  (pss_cons (ps_set (i := 6) sc__law_draw.nd rfl (Or.inl rfl) (pe_op op_mod (pe_op op_mul (pe_callTy call_int1 (by rfl) T.int (by decide +kernel) (pa_cons (pe_op op_add (pe_op op_add (pv 5) (pe_op op_mul pe_int (pv 3))) pe_int) pa_nil)) pe_int) pe_int))
  (pss_cons (ps_set (i := 6) sc__law_draw.nd rfl (Or.inl rfl) (pe_op op_mod (pe_callTy call_int1 (by rfl) T.int (by decide +kernel) (pa_cons (pe_op op_mul (pv 6) (pe_op op_add (pe_op op_fdiv (pv 6) pe_int) pe_int)) pa_nil)) pe_int))
  (pss_cons (ps_set (i := 6) sc__law_draw.nd rfl (Or.inl rfl) (pe_op op_mod (pe_callTy call_int1 (by rfl) T.int (by decide +kernel) (pa_cons (pe_op op_mul (pv 6) (pe_op op_add (pe_op op_fdiv (pv 6) pe_int) pe_int)) pa_nil)) pe_int))
  (pss_one (ps_ret (pe_op op_mod (pe_callTy call_int1 (by rfl) T.int (by decide +kernel) (pa_cons (pv 6) pa_nil)) (pv 1))))))))))))), ?_⟩
    refine Evl.q_asg (Evl.ev_op (Evl.ev_var rfl) Evl.ev_c (Evl.rv_ixL (Evl.sq_of hS) rfl)) fun H1 e1 => ?_
    refine Evl.q_asg (Evl.ev_op (Evl.ev_var rfl) Evl.ev_c (Evl.rv_ixL (Evl.sq_of (e1 _ _ hS)) rfl)) fun H2 e2 => ?_
    have e02 := e1.trans e2
    refine Evl.q_setL (l := S) (j := 1) (v := .int (k0 + 1)) (e02 _ _ hS) (Evl.ev_op (Evl.ev_var rfl) Evl.ev_c Evl.rv_I0) (Evl.ev_var rfl) Evl.ev_c (by show 1 < 2; decide) fun H3 e3 => ?_
    have m3 : Mv S c H (upd H3 S (.lst ([V.ref c, .int k0].set 1 (.int (k0 + 1))))) := by
      have e03 := e02.trans e3
      refine ⟨st, ⟨ne, k0 + 1, cs, upd_same, by rw [upd_ne (Ne.symm ne)]; exact e03 _ _ hc, c0, c63⟩, fun b o b1 b2 hb => ?_⟩
      rw [upd_ne b1]
      exact e03 _ _ hb
    have hc3 : (upd H3 S (.lst ([V.ref c, .int k0].set 1 (.int (k0 + 1))))) c = some (.lst (cs.map V.int)) := by rw [upd_ne (Ne.symm ne)]; exact (e02.trans e3) _ _ hc
    generalize (upd H3 S (.lst ([V.ref c, .int k0].set 1 (.int (k0 + 1))))) = H4 at m3 hc3 ⊢
    have l0 : (0 : Int) < ((cs.map V.int).length : Int) := by rw [List.length_map]; omega
    refine Evl.q_asg (Evl.ev_op (ev_int1 (Evl.ev_var rfl)) (ev_lenL (Evl.ev_var rfl) (.inl (Evl.sq_of hc3))) (Evl.rv_I l0)) fun H5 e5 => ?_
    have a0 : 0 ≤ k0 % ((cs.map V.int).length : Int) := Int.emod_nonneg _ (by omega)
    have a1 : k0 % ((cs.map V.int).length : Int) < ((cs.map V.int).length : Int) := Int.emod_lt_of_pos _ l0
    generalize k0 % ((cs.map V.int).length : Int) = at_ at a0 a1 ⊢
    obtain ⟨v, hv, hat⟩ := at_get a0 a1
    obtain ⟨x, rfl⟩ : ∃ x, v = V.int x := by
      rw [List.getElem?_map] at hv
      cases hy : cs[at_.toNat]? with
      | none => rw [hy] at hv; cases hv
      | some y => rw [hy] at hv; exact ⟨y, (Option.some.inj hv).symm⟩
    refine Evl.q_asg (Evl.ev_op (Evl.ev_var rfl) (Evl.ev_var rfl) (Evl.rv_ixL (Evl.sq_of (e5 _ _ hc3)) hat)) fun H6 e6 => ?_
    have m6 := m3.tx (e5.trans e6)
    have hc6 := (e5.trans e6) _ _ hc3
    clear hc3 m3 e5 e6 e3 e02 e2 e1
    refine Evl.q_when (Evl.et_test (Evl.ev_op (Evl.ev_var rfl) (Evl.ev_op Evl.ev_c Evl.ev_c (Evl.rv_I ⟨by decide, by decide, by decide⟩)) Evl.rv_I0)) (fun _ H7 e7 => ?_) (fun _ H7 e7 => ?_)
    · have ej : ((at_.toNat : Nat) : Int) = at_ := by omega
      refine Evl.q_setL (l := c) (j := at_.toNat) (v := .int (x / m)) (e7 _ _ hc6) (Evl.ev_op (Evl.ev_var rfl) (Evl.ev_var rfl) (Evl.rv_I ⟨by omega, ?_⟩)) (Evl.ev_var rfl) (Evl.ev_var (by rw [ej]; rfl)) (by omega) fun H8 e8 => ?_
      · have : m.natAbs < 2 ^ 60 := by omega
        have h2 : m.natAbs.log2 < 60 := (Nat.log2_lt (by omega)).mpr this
        omega
      · have m8 : Mv S c H (upd H8 c (.lst ((cs.map V.int).set at_.toNat (.int (x / m))))) := by
          have m7 := m6.tx (e7.trans e8)
          obtain ⟨_, k1, cs1, h1, h2, h3⟩ := m7.z
          refine ⟨st, ⟨ne, k1, cs.set at_.toNat (x / m), by rw [upd_ne ne]; exact h1, by rw [upd_same, List.map_set], by rw [List.length_set]; exact c0, by rw [List.length_set]; exact c63⟩, fun b o b1 b2 hb => ?_⟩
          rw [upd_ne b2]
          exact m7.fr b o b1 b2 hb
        refine Evl.s_ret (Evl.ev_op (ev_int1 (Evl.ev_var rfl)) (Evl.ev_var rfl) (Evl.rv_I (by omega))) fun H9 e9 => k H9 _ (m8.tx e9) (Int.emod_nonneg _ (by omega)) (Int.emod_lt_of_pos _ (by omega))
    · have m7 := m6.tx e7
      refine Evl.q_asg (Evl.ev_op (Evl.ev_op (ev_int1 (Evl.ev_op (Evl.ev_op (Evl.ev_var rfl) (Evl.ev_op Evl.ev_c (Evl.ev_var rfl) (Evl.rv_I (.inl ⟨by decide, by decide⟩))) Evl.rv_I0) Evl.ev_c Evl.rv_I0)) Evl.ev_c (Evl.rv_I (.inr ⟨by decide, by decide⟩))) Evl.ev_c (Evl.rv_I (by decide))) fun H8 e8 => ?_
      have b0 : 0 ≤ (x + 7919 * k0 + 1) * 48271 % 2147483647 := Int.emod_nonneg _ (by decide)
      have b1 : (x + 7919 * k0 + 1) * 48271 % 2147483647 < 2147483647 := Int.emod_lt_of_pos _ (by decide)
      generalize (x + 7919 * k0 + 1) * 48271 % 2147483647 = y at b0 b1 ⊢
      refine Evl.q_asg (Evl.ev_op (ev_int1 (Evl.ev_op (Evl.ev_var rfl) (Evl.ev_op (Evl.ev_op (Evl.ev_var rfl) Evl.ev_c (Evl.rv_I ⟨by decide, by decide⟩)) Evl.ev_c Evl.rv_I0) (Evl.rv_I (.inl ⟨by omega, by omega⟩)))) Evl.ev_c (Evl.rv_I (by decide))) fun H9 e9 => ?_
      have b0 : 0 ≤ y * (y / 1009 + 69621) % 2147483647 := Int.emod_nonneg _ (by decide)
      have b1 : y * (y / 1009 + 69621) % 2147483647 < 2147483647 := Int.emod_lt_of_pos _ (by decide)
      generalize y * (y / 1009 + 69621) % 2147483647 = z at b0 b1 ⊢
      refine Evl.q_asg (Evl.ev_op (ev_int1 (Evl.ev_op (Evl.ev_var rfl) (Evl.ev_op (Evl.ev_op (Evl.ev_var rfl) Evl.ev_c (Evl.rv_I ⟨by decide, by decide⟩)) Evl.ev_c Evl.rv_I0) (Evl.rv_I (.inl ⟨by omega, by omega⟩)))) Evl.ev_c (Evl.rv_I (by decide))) fun H10 e10 => ?_
      refine Evl.s_ret (Evl.ev_op (ev_int1 (Evl.ev_var rfl)) (Evl.ev_var rfl) (Evl.rv_I (by omega))) fun H11 e11 => k H11 _ (m7.tx (e8.trans (e9.trans (e10.trans e11)))) (Int.emod_nonneg _ (by omega)) (Int.emod_lt_of_pos _ (by omega))
end
end Pk

namespace Pk
open PySem PySem.Spec PyProof.Rows L2 Ssb
open Evl (Ex Ev EvT EvL EvA EvU)
theorem pigeon {α : Type} [DecidableEq α] : ∀ {l m : List α}, l.Nodup → (∀ x ∈ l, x ∈ m) → l.length ≤ m.length
  | [], _, _, _ => Nat.zero_le _
  | x :: l, m, nd, h => by
    rw [List.nodup_cons] at nd
    have h1 := pigeon (m := m.erase x) nd.2 fun y hy => (List.mem_erase_of_ne (fun e => nd.1 (by rw [← e]; exact hy))).mpr (h y (List.mem_cons_of_mem _ hy))
    have h2 := List.length_erase_of_mem (h x List.mem_cons_self)
    have h3 : 0 < m.length := List.length_pos_of_mem (h x List.mem_cons_self)
    rw [List.length_cons]
    omega
theorem inV_strs {w : Str} {ws : List Str} : inV (.str w) (ws.map V.str) = true ↔ w ∈ ws := by
  unfold inV
  rw [List.any_eq_true]
  constructor
  · rintro ⟨y, hy, e⟩
    obtain ⟨z, hz, rfl⟩ := List.mem_map.mp hy
    have : z = w := by simpa [eqV] using e
    rw [← this]; exact hz
  · intro h
    exact ⟨.str w, List.mem_map.mpr ⟨w, h, rfl⟩, by simp [eqV]⟩
theorem inV_ints {w : Int} {ws : List Int} : inV (.int w) (ws.map V.int) = true ↔ w ∈ ws := by
  unfold inV
  rw [List.any_eq_true]
  constructor
  · rintro ⟨y, hy, e⟩
    obtain ⟨z, hz, rfl⟩ := List.mem_map.mp hy
    have : z = w := by simpa [eqV] using e
    rw [← this]; exact hz
  · intro h
    exact ⟨.int w, List.mem_map.mpr ⟨w, h, rfl⟩, by simp [eqV]⟩
theorem flat_strs (ws : List Str) : (ws.map V.str).all flatV = true := by
  rw [List.all_eq_true]; intro y hy; obtain ⟨z, _, rfl⟩ := List.mem_map.mp hy; rfl
theorem flat_ints (ws : List Int) : (ws.map V.int).all flatV = true := by
  rw [List.all_eq_true]; intro y hy; obtain ⟨z, _, rfl⟩ := List.mem_map.mp hy; rfl
theorem given_filter {xs : List V} {g : V → Bool} : Evl.given xs.length (fun i => g ((xs[i]?).getD .non)) (fun i => (xs[i]?).getD .non) = xs.filter g := by
  unfold Evl.given
  have h : (List.range xs.length).map (fun i => (xs[i]?).getD .non) = xs := by
    rw [map_range (g := _root_.id) rfl (fun i a ha => by rw [ha]; rfl), List.map_id]
  conv => rhs; rw [← h, List.filter_map]
  rfl
def chrs (s : Str) : List V := s.cps.toList.map fun c => V.str ⟨#[c]⟩
section
variable {K : PySem.W.Frag} {σ : L2.St} {H : Hp} {te tl ta : TE} {t : TT} {vs : List Nat} {j : Nat}
theorem el_lcSF {s : Str} {g : V → Bool} (h : Ev ta σ H (.str s)) (hz : s.length ≤ 40000) (hw : ∀ x, wipe ((wipe σ vs).set j (some x)) vs = wipe σ vs)
    (ht : ∀ x H2, Ex H H2 → x ∈ chrs s → EvT t ((wipe σ vs).set j (some x)) H2 (g x)) (he : ∀ x H2, Ex H H2 → x ∈ chrs s → Ev te ((wipe σ vs).set j (some x)) H2 x) : EvL (tLc (iStr ta) (gName j) t te vs) σ H ((chrs s).filter g) := fun H1 e Q q =>
  h H1 e _ fun H2 e2 => ⟨s, rfl, fun Dl hD => by
    have w : Walk (Its s) (chrs s).length (fun _ => True) (YAt (chrs s)) := by
      have l : (chrs s).length = s.cps.size := by simp [chrs]
      rw [l]
      refine walk_str.mono (fun _ z => z) fun i H v H' hi _ y => ?_
      obtain ⟨e, c, hc, rfl⟩ := y
      exact ⟨e, by simp [chrs, hc]⟩
    have l5 : (chrs s).length ≤ 40000 := by simp [chrs]; exact hz
    refine lc_it w (Evl.Cw H2 (fun i => g (((chrs s)[i]?).getD .non)) (fun i => ((chrs s)[i]?).getD .non) Dl) ⟨hD, Ex.new hD, upd_same⟩ (fun _ _ _ _ => trivial) (fun i x H3 H4 hi p y => ?_) fun H3 p => ?_
    · obtain ⟨rfl, hx⟩ := y
      have hm := List.mem_of_getElem? hx
      refine ⟨hw x, Evl.cw_turn p (by omega) ?_ fun _ => ?_⟩
      · rw [hx]; exact ht x H2 (e.trans e2) hm
      · rw [hx]; exact he x H2 (e.trans e2) hm
    · refine q Dl H3 (Evl.fresh_back e2 p.1) (e2.trans p.2.1) ?_
      have := p.2.2
      rw [given_filter] at this
      exact this⟩
theorem el_lcF {a : Addr} {xs : List V} {g : V → Bool} (h : Ev tl σ H (.ref a)) (hx : SqL K H a xs) (hz : xs.length ≤ 40000) (hw : ∀ x, wipe ((wipe σ vs).set j (some x)) vs = wipe σ vs)
    (ht : ∀ x H2, Ex H H2 → x ∈ xs → EvT t ((wipe σ vs).set j (some x)) H2 (g x)) (he : ∀ x H2, Ex H H2 → x ∈ xs → Ev te ((wipe σ vs).set j (some x)) H2 x) : EvL (tLc (iList K tl) (gName j) t te vs) σ H (xs.filter g) := by
  have := Evl.el_lcL (K := K) (te := te) (t := t) (vs := vs) (j := j) (fun i => g ((xs[i]?).getD .non)) (fun i => (xs[i]?).getD .non) h hx hz hw (fun i x H1 e hi => by rw [hi]; exact ht x H1 e (List.mem_of_getElem? hi)) (fun i x H1 e hi _ => by rw [hi]; exact he x H1 e (List.mem_of_getElem? hi))
  rw [given_filter] at this
  exact this
end
def ab : Str := "abcdefghijklmnopqrstuvwxyz"
theorem ab_ok : ∀ c ∈ ab.cps.toList, 97 ≤ c ∧ c ≤ 122 := by decide +kernel
theorem ab_len : ab.cps.toList.length = 26 := by decide +kernel
def abS : List Str := ab.cps.toList.map fun c => ⟨#[c]⟩
theorem ab_chrs : chrs ab = abS.map V.str := by unfold chrs abS; rw [List.map_map]; rfl
theorem abS_nd : abS.Nodup := by decide +kernel
theorem abS_len : abS.length = 26 := by decide +kernel
theorem abS_w : ∀ x ∈ abS, isW x := fun x hx => by
  obtain ⟨c, hc, rfl⟩ := List.mem_map.mp hx
  refine ⟨by show 1 ≤ 1; decide, by show 1 ≤ 8; decide, fun d hd => ?_⟩
  have : d = c := by simpa using hd
  rw [this]; exact ab_ok c hc
section
variable {P : Program} {w : World} {K : PySem.W.Frag} {mg : Str → Option Value} {base : Heap} {C_Shape C_InvalidShape C_InvalidData C_StayError : Addr}
def spWord : Sp := fun vs H Q _ => ∃ (S c : Addr), vs = [.ref S] ∧ StAt H S c ∧ ∀ H' w, Mv S c H H' → isW w → Q (.str w) H'
theorem ok__law_word (T : Txt K mg C_Shape C_InvalidShape C_InvalidData C_StayError) (R : Prg K mg C_Shape C_InvalidShape C_InvalidData C_StayError) : ∃ f fd, Fn P w K mg base "_law_word" 2 ["_law_stream_here"] spWord f fd := by
  obtain ⟨_, _, G__law_draw⟩ := ok__law_draw (P := P) (w := w) (base := base) T R
  obtain ⟨f, fd, at_, F, kp⟩ := R._law_word
  refine ⟨f, fd, F.ok sc__law_word (fun vs H Q E h => ?_) (fun cdv A outer s H vs Q E hr h => ?_), at_, kp, F.binds (fun _ _ _ _ _ _ us hl => match us, hl with | [_], _ => rfl)⟩
  · obtain ⟨S, c, rfl, _⟩ := h; rfl
  · obtain ⟨S, c, rfl, st, k⟩ := h
    refine ⟨_, (pss_cons (ps_set (i := 1) sc__law_word.nd rfl (Or.inl rfl) pe_str)
  (pss_cons (ps_set (i := 2) sc__law_word.nd rfl (Or.inl rfl) (pe_op op_add pe_int (pcl G__law_draw hr (pa_cons (pv 0) (pa_cons pe_int pa_nil)))))
  (Evl.pss_cut (ps_if (pt_cmpR op_gt (pcl G__law_draw hr (pa_cons (pv 0) (pa_cons pe_int pa_nil))) pe_int (nomark _)) (pss_one (ps_set (i := 2) sc__law_word.nd rfl (Or.inl rfl) (pe_op op_add pe_int (pe_op op_mod (pe_callTy call_int1 (by rfl) T.int (by decide +kernel) (pa_cons (pv 2) pa_nil)) pe_int)))) pss_nil)
  (pss_cons (ps_set (i := 3) sc__law_word.nd rfl (Or.inl rfl) (pcl G__law_draw hr (pa_cons (pv 0) (pa_cons pe_int pa_nil))))
  (pss_cons (ps_set (i := 4) sc__law_word.nd rfl (Or.inl rfl) pe_str)
  (pss_cons (ps_for PassesOwn.never rfl (pi_range1 (by rfl) T.range (pa_cons (pv 2) pa_nil)) (pg_name (i := 5) sc__law_word.nd rfl (Or.inl rfl))
    (pss_cons (ps_set (i := 4) sc__law_word.nd rfl (Or.inl rfl) (pe_op op_add_str (pv 4) (pe_ix ix_str (pv 1) (pe_op op_mod (pe_callTy call_int1 (by rfl) T.int (by decide +kernel) (pa_cons (pv 3) pa_nil)) pe_int) (fun _ _ => rfl))))
  (pss_one (ps_set (i := 3) sc__law_word.nd rfl (Or.inl rfl) (pe_op op_fdiv (pv 3) pe_int)))))
  (pss_one (ps_ret (pv 4))))))))), ?_⟩
    refine Evl.q_asg Evl.ev_c fun H1 e1 => ?_
    refine ⟨_, rfl, S, c, 8, rfl, st.ex e1, by decide, by decide, fun H2 r m2 r0 r1 => ⟨_, _, rfl, rfl, ?_⟩⟩
    have m02 := (Mv.ex st e1).trans m2
    refine Evl.q_cut (M := fun σ' H' => ∃ sz : Int, σ' = [some (.ref S), some (.str ab), some (.int sz), none, none, none] ∧ 1 ≤ sz ∧ sz ≤ 8 ∧ Mv S c H H') ?_ ?_
    · refine ⟨_, rfl, S, c, 3, rfl, m02.z, by decide, by decide, fun H3 r3 m3 _ _ => ⟨_, _, rfl, rfl, _, rfl, ?_⟩⟩
      refine ite2 (fun _ => ?_) (fun _ => ?_)
      · refine Evl.s_asg (Evl.ev_op Evl.ev_c (Evl.ev_op (ev_int1 (Evl.ev_var rfl)) Evl.ev_c (Evl.rv_I (by decide))) Evl.rv_I0) fun H4 e4 => ?_
        have q0 : 0 ≤ (1 + r) % 2 := Int.emod_nonneg _ (by decide)
        have q1 : (1 + r) % 2 < 2 := Int.emod_lt_of_pos _ (by decide)
        exact ⟨_, rfl, by omega, by omega, (m02.trans m3).tx e4⟩
      · exact ⟨_, rfl, by omega, by omega, m02.trans m3⟩
    · rintro σ' H3 ⟨sz, rfl, z1, z8, m3⟩
      refine ⟨_, rfl, S, c, 208827064576, rfl, m3.z, by decide, by decide, fun H4 r4 m4 _ _ => ?_⟩
      have m04 := m3.trans m4
      refine Evl.q_asg Evl.ev_c fun H5 e5 => ?_
      refine Evl.q_forR1 (n := sz) (Evl.ea_cons (Evl.ev_var rfl) Evl.ea_nil) ⟨by omega, by omega⟩ (fun i σ' H' => ∃ (num : Int) (w : Str) (o5 : Option V), σ' = [some (.ref S), some (.str ab), some (.int sz), some (.int num), some (.str w), o5] ∧ Mv S c H H' ∧ w.length = i ∧ ∀ c ∈ w.cps.toList, 97 ≤ c ∧ c ≤ 122) (fun H6 e6 => ⟨_, _, _, rfl, (m04.tx e5).tx e6, rfl, fun c hc => by cases hc⟩) (fun i σ' H' hi pv => ?_) fun σ' H' pv => ?_
      · obtain ⟨num, x, o5, rfl, mH, lx, hx⟩ := pv
        have q0 : 0 ≤ num % 26 := Int.emod_nonneg _ (by decide)
        have q1 : num % 26 < 26 := Int.emod_lt_of_pos _ (by decide)
        obtain ⟨ch, hch, hat⟩ := at_get (xs := ab.cps.toList) q0 (by rw [ab_len]; exact q1)
        refine Evl.q_asg (Evl.ev_op (Evl.ev_var rfl) (Evl.ev_op (Evl.ev_var rfl) (Evl.ev_op (ev_int1 (Evl.ev_var rfl)) Evl.ev_c (Evl.rv_I (by decide))) (Evl.rv_ixS (by show 26 ≤ 100000; decide) hat)) (z := .str (x ++ ⟨#[ch]⟩)) (fun H7 _ Q' q' => ⟨_, _, rfl, rfl, Evl.sz_of (by show x.length + 1 ≤ 100000; omega), q' _ (Ex.refl _)⟩)) fun H7 e7 => ?_
        refine Evl.s_asg (Evl.ev_op (Evl.ev_var rfl) Evl.ev_c (Evl.rv_I ⟨by decide, by decide⟩)) fun H8 e8 => ?_
        refine ⟨_, _, _, rfl, (mH.tx e7).tx e8, ?_, ?_⟩
        · show (x.cps ++ #[ch]).size = i + 1
          rw [Array.size_append]
          show x.length + 1 = i + 1
          rw [lx]
        · intro d hd
          have hd : d ∈ (x.cps ++ #[ch]).toList := hd
          rw [Array.toList_append, List.mem_append] at hd
          rcases hd with hd | hd
          · exact hx d hd
          · have : d = ch := by simpa using hd
            rw [this]
            exact ab_ok _ (List.mem_of_getElem? hch)
      · obtain ⟨num, x, o5, rfl, mH, lx, hx⟩ := pv
        exact Evl.s_ret (Evl.ev_var rfl) fun H7 e7 => k H7 x (mH.tx e7) ⟨by omega, by omega, hx⟩
theorem Mv.lst0 {S c : Addr} {H H' : Hp} (m : Mv S c H H') {t : Addr} (h : H t = some (.lst [])) : H' t = some (.lst []) := by
  obtain ⟨_, k, cs, h1, h2, h3, _⟩ := m.a
  refine m.fr t _ (fun e => by rw [e, h1] at h; cases h) (fun e => ?_) h
  rw [e, h2] at h
  cases cs with
  | nil => simp at h3
  | cons x xs => cases h
def spNames : Sp := fun vs H Q _ => ∃ (S c t : Addr) (k : Int), vs = [.ref S, .int k, .ref t] ∧ StAt H S c ∧ 0 ≤ k ∧ k ≤ 4 ∧ H t = some (.lst []) ∧ ∀ H' q (ws : List Str), Mv S c H H' → H q = none → H' q = some (.lst (ws.map V.str)) → (ws.length : Int) = k → (∀ x ∈ ws, isW x) → ws.Nodup → Q (.ref q) H'
theorem ok__law_names (T : Txt K mg C_Shape C_InvalidShape C_InvalidData C_StayError) (R : Prg K mg C_Shape C_InvalidShape C_InvalidData C_StayError) : ∃ f fd, Fn P w K mg base "_law_names" 3 ["_law_stream_here", "_law_many", "_law_taken"] spNames f fd := by
  obtain ⟨_, _, G__law_word⟩ := ok__law_word (P := P) (w := w) (base := base) T R
  obtain ⟨f, fd, at_, F, kp⟩ := R._law_names
  refine ⟨f, fd, F.ok sc__law_names (fun vs H Q E h => ?_) (fun cdv A outer s H vs Q E hr h => ?_), at_, kp, F.binds (fun _ _ _ _ _ _ us hl => match us, hl with | [_, _, _], _ => rfl)⟩
  · obtain ⟨S, c, t, n, rfl, _⟩ := h; rfl
  · obtain ⟨S, c, t, n, rfl, st, n0, n4, ht, k⟩ := h
    refine ⟨_, (pss_cons (ps_set (i := 3) sc__law_names.nd rfl (Or.inr rfl) (pe_lst pa_nil))
  (pss_cons (ps_for PassesOwn.never rfl (pi_range1 (by rfl) T.range (pa_cons (pv 1) pa_nil)) (pg_name (i := 4) sc__law_names.nd rfl (Or.inl rfl))
    (pss_cons (ps_set (i := 5) sc__law_names.nd rfl (Or.inl rfl) (pcl G__law_word hr (pa_cons (pv 0) pa_nil)))
  (Evl.pss_cut (ps_if (PW.pt (pw_or (pt_cmpR (r := rIn K false) op_in_seq (pv 5) (pv 2) (by rfl)) (pw_or1 (pt_cmpR (r := rIn K false) op_in_seq (pv 5) (pv 3) (by rfl))))) (pss_cons (ps_setLc (i := 6) (own := [("_law_spare", 7)]) rfl sc__law_names.nd rfl rfl (sw_true rfl rfl rfl (by decide +kernel)) (pi_str pe_str) (blkOk_by (own := [("_law_spare", 7)]) (N := ["_law_stream_here", "_law_many", "_law_taken", "_law_names_here", "_law_k", "_law_word_here", "_law_spares", "_law_spare"]) (sc := defScope s__law_names) (by decide +kernel)) (fun _ _ _ _ _ => (pg_name (i := 7) sc__law_names.nd rfl (Or.inl rfl))) (fun _ _ _ _ _ => (pts_one (pt_cmpR (r := rIn K true) op_notIn_seq (pv 7) (pv 2) (by rfl)))) (fun _ _ _ _ _ => (pv 7)))
  (pss_one (ps_set (i := 5) sc__law_names.nd rfl (Or.inl rfl) (pe_ix (r := rIxL K) ix_list (pe_lc (own := [("_law_spare", 7)]) rfl sc__law_names.nd (show PI _ _ _ (iList K _) from pi_list (pv 6)) (blkOk_by (own := [("_law_spare", 7)]) (N := ["_law_stream_here", "_law_many", "_law_taken", "_law_names_here", "_law_k", "_law_word_here", "_law_spares", "_law_spare"]) (sc := defScope s__law_names) (by decide +kernel)) (fun _ _ _ _ _ => (pg_name (i := 7) sc__law_names.nd rfl (Or.inl rfl))) (fun _ _ _ _ _ => (pts_one (pt_cmpR (r := rIn K true) op_notIn_seq (pv 7) (pv 3) (by rfl)))) (fun _ _ _ _ _ => (pv 7))) pe_int (fun _ _ => rfl))))) pss_nil)
  (pss_one (ps_expr (show PE _ _ (tBM K _ _ _ _) from pe_bm PySem.F.plainAttrs_list PySem.F.slot_list_append PySem.F.type_list_append mt_append (pv 3) (pa_cons (pv 5) pa_nil)))))))
  (pss_one (ps_ret (pv 3))))), ?_⟩
    refine Evl.q_asgL (xs := []) (Evl.el_lst Evl.ea_nil (Nat.zero_le _)) fun q H1 hq e1 hq1 => ?_
    refine Evl.q_forR1 (n := n) (Evl.ea_cons (Evl.ev_var rfl) Evl.ea_nil) ⟨by omega, by omega⟩ (fun i σ' H' => ∃ (ws : List Str) (o4 o5 o6 : Option V), σ' = [some (.ref S), some (.int n), some (.ref t), some (.ref q), o4, o5, o6, none] ∧ Mv S c H H' ∧ H' q = some (.lst (ws.map V.str)) ∧ ws.length = i ∧ (∀ x ∈ ws, isW x) ∧ ws.Nodup) (fun H2 e2 => ⟨[], _, _, _, rfl, .ex st (e1.trans e2), e2 _ _ hq1, rfl, fun x hx => (nomatch hx), List.nodup_nil⟩) (fun i σ' H' hi pv => ?_) fun σ' H' pv => ?_
    · obtain ⟨ws, o4, o5, o6, rfl, mH, hws, lws, wok, wnd⟩ := pv
      refine ⟨_, rfl, S, c, rfl, mH.z, fun H2 x m2 hx => ?_⟩
      have m02 := mH.trans m2
      have hq2 : H2 q = some (.lst (ws.map V.str)) := m2.fr q _ (st.someS hq).1 (st.someS hq).2 hws
      have ht2 := m02.lst0 ht
      have w5 : (ws.map V.str).length ≤ 40000 := by rw [List.length_map]; omega
      refine Evl.q_cut (M := fun σ' H' => ∃ (y : Str) (o6 : Option V), σ' = [some (.ref S), some (.int n), some (.ref t), some (.ref q), some (.int i), some (.str y), o6, none] ∧ Mv S c H H' ∧ H' q = some (.lst (ws.map V.str)) ∧ isW y ∧ y ∉ ws) ?_ ?_
      · refine Evl.s_when (Evl.et_or (Evl.et_test (Evl.ev_op (Evl.ev_var rfl) (Evl.ev_var rfl) (Evl.rv_isL (Evl.sq_of ht2) rfl rfl))) fun _ => Evl.et_test (Evl.ev_op (Evl.ev_var rfl) (Evl.ev_var rfl) (Evl.rv_isL (Evl.sq_of hq2) rfl (flat_strs ws)))) (fun _ H3 e3 => ?_) (fun hb H3 e3 => ?_)
        · refine Evl.q_asgL (xs := abS.map V.str) ?_ fun p H4 hp e4 hp4 => ?_
          · have := el_lcSF (s := ab) (g := fun _ => true) (ta := tC (.str ab)) (te := tVar 7) (t := tTest (tOp (rIn K true) (tVar 7) (tVar 2))) (j := 7) (vs := [7]) (H := H3) (σ := [some (.ref S), some (.int n), some (.ref t), some (.ref q), some (.int i), some (.str x), o6, none]) Evl.ev_c (by show 26 ≤ 40000; decide) (fun _ => rfl) (fun z H5 e5 hz => ?_) (fun z H5 e5 hz => Evl.ev_var rfl)
            · rw [List.filter_eq_self.mpr (fun _ _ => rfl), ab_chrs] at this
              exact this
            · obtain ⟨u, _, rfl⟩ := List.mem_map.mp hz
              exact Evl.et_is (Evl.et_test (Evl.ev_op (Evl.ev_var rfl) (Evl.ev_var rfl) (Evl.rv_niL (Evl.sq_of ((e3.trans e5) _ _ ht2)) rfl rfl))) rfl
          · obtain ⟨y, hy1, hy2⟩ : ∃ y, ((abS.map V.str).filter fun z => !inV z (ws.map V.str))[0]? = some (.str y) ∧ isW y ∧ y ∉ ws := by
              cases hc : ((abS.map V.str).filter fun z => !inV z (ws.map V.str)) with
              | nil =>
                exfalso
                have sub : ∀ x ∈ abS, x ∈ ws := fun x hx => by
                  have := List.filter_eq_nil_iff.mp hc (.str x) (List.mem_map.mpr ⟨x, hx, rfl⟩)
                  refine inV_strs.mp ?_
                  simpa using this
                have := pigeon abS_nd sub
                rw [abS_len] at this
                omega
              | cons z zs =>
                have hz : z ∈ (abS.map V.str).filter fun z => !inV z (ws.map V.str) := by rw [hc]; exact List.mem_cons_self
                obtain ⟨h1, h2⟩ := List.mem_filter.mp hz
                obtain ⟨u, hu, rfl⟩ := List.mem_map.mp h1
                refine ⟨u, rfl, abS_w u hu, fun hm => ?_⟩
                rw [inV_strs.mpr hm] at h2
                cases h2
            refine Evl.s_asg (v := .str y) (Evl.ev_opL1 (xs := (abS.map V.str).filter fun z => !inV z (ws.map V.str)) (el_lcF (Evl.ev_var rfl) (Evl.sq_of hp4) (by rw [List.length_map, abS_len]; decide) (fun _ => rfl) (fun z H5 e5 hz => ?_) (fun z H5 e5 hz => Evl.ev_var rfl)) (fun _ _ => Evl.ev_c) fun p2 H5 hp5 e5 => Evl.rv_ixL (Evl.sq_of hp5) (atI_nat hy1)) fun H5 e5 => ?_
            · obtain ⟨u, _, rfl⟩ := List.mem_map.mp hz
              exact Evl.et_test (Evl.ev_op (Evl.ev_var rfl) (Evl.ev_var rfl) (Evl.rv_niL (Evl.sq_of ((e3.trans (e4.trans e5)) _ _ hq2)) rfl (flat_strs ws)))
            · have e35 := e3.trans (e4.trans e5)
              exact ⟨y, _, rfl, m02.tx e35, e35 _ _ hq2, hy2.1, hy2.2⟩
        · refine ⟨x, _, rfl, m02.tx e3, e3 _ _ hq2, hx, fun hm => ?_⟩
          rw [inV_strs.mpr hm] at hb
          simp at hb
      · rintro σ' H3 ⟨y, o6, rfl, m3, hq3, yW, yn⟩
        refine Evl.s_app hq3 (Evl.ev_var rfl) (Evl.ev_var rfl) (by omega) fun H4 e4 => ?_
        refine ⟨ws ++ [y], _, _, _, rfl, (m3.tx e4).mut hq, by rw [upd_same, List.map_append]; rfl, by rw [List.length_append, lws]; rfl, fun z hz => ?_, ?_⟩
        · rcases List.mem_append.mp hz with hz | hz
          · exact wok z hz
          · rw [List.mem_singleton.mp hz]; exact yW
        · refine List.nodup_append.mpr ⟨wnd, by simp, fun a ha b hb => ?_⟩
          rw [List.mem_singleton.mp hb]
          intro e
          exact yn (by rw [← e]; exact ha)
    · obtain ⟨ws, o4, o5, o6, rfl, mH, hws, lws, wok, wnd⟩ := pv
      exact Evl.s_ret (Evl.ev_var rfl) fun H7 e7 => k H7 q ws (mH.tx e7) hq (e7 _ _ hws) (by omega) wok wnd
end
end Pk

namespace Pk
open PySem PySem.Spec PyProof.Rows L2 Ssb
open Evl (Ex Ev EvT EvL EvA EvU)
/-- only what stands counts -/
theorem rep_dom {H : Hp} : ∀ {n : Nat} {S : Addr → Prop} {d : D} {v : V}, Rep H n S d v → Rep H n (fun b => S b ∧ H b ≠ none) d v
  | 0, _, _, _, h => h.elim
  | n + 1, S, d, v, h => by
    cases d with
    | non => exact h
    | bl b => exact h
    | int i => exact h
    | str s => exact h
    | lst l =>
      obtain ⟨a, xs, e, s, ha, hl, p⟩ := h
      exact ⟨a, xs, e, ⟨s, by rw [ha]; exact fun z => nomatch z⟩, ha, hl, pair_imp p fun d x r => rep_dom r⟩
    | tup l =>
      obtain ⟨a, xs, e, ha, hl, p⟩ := h
      exact ⟨a, xs, e, ha, hl, pair_imp p fun d x r => rep_dom r⟩
    | dic l =>
      obtain ⟨a, es, e, s, ha, hl, p⟩ := h
      exact ⟨a, es, e, ⟨s, by rw [ha]; exact fun z => nomatch z⟩, ha, hl, pair_imp p fun q x r => ⟨r.1, rep_S (fun b z => ⟨⟨z.1.1, z.2⟩, z.1.2⟩) (rep_dom r.2)⟩⟩
theorem rep_Sd {H : Hp} {n : Nat} {S S' : Addr → Prop} {d : D} {v : V} (k : ∀ b, S b → H b ≠ none → S' b) (h : Rep H n S d v) : Rep H n S' d v := rep_S (fun b z => k b z.1 z.2) (rep_dom h)
theorem rep_upd {H : Hp} {n : Nat} {S : Addr → Prop} {d : D} {v : V} {a : Addr} {o u : HO} (ha : H a = some o) (no : ∀ xs, o ≠ .tup xs) (hS : ∀ b, S b → b ≠ a) (h : Rep H n S d v) : Rep (upd H a u) n S d v :=
  rep_to (fun b o' hb z => by
    have ne : b ≠ a := by
      rcases z with z | ⟨xs, rfl⟩
      · exact hS b z
      · intro e; rw [e, ha] at hb; exact no xs (Option.some.inj hb)
    rw [upd_ne ne]; exact hb) h
theorem lk_none {α : Type} : ∀ {l : List (Str × α)} {k : Str}, k ∉ l.map (·.1) → l.lookup k = none
  | [], _, _ => rfl
  | (j, d) :: l, k, h => by
    rw [lk_cons, if_neg (fun e => h (by rw [e]; exact List.mem_cons_self))]
    exact lk_none fun z => h (List.mem_cons_of_mem _ z)
theorem pair_strs {H : Hp} {n : Nat} {S : Addr → Prop} : ∀ {ws : List Str}, Paired (fun d x => Rep H (n + 1) S d x) (ws.map D.str) (ws.map V.str)
  | [] => .nil
  | w :: ws => .cons rfl pair_strs
theorem take_snoc {α : Type} {l : List α} {i : Nat} {x : α} (h : l[i]? = some x) : l.take (i + 1) = l.take i ++ [x] := by rw [List.take_add_one, h]; rfl
theorem not_take {α : Type} {l : List α} {i : Nat} {x : α} (nd : l.Nodup) (h : l[i]? = some x) : x ∉ l.take i := fun hm =>
  (List.nodup_append.mp (by rw [← take_snoc h]; exact List.Sublist.nodup (List.take_sublist _ _) nd : (l.take i ++ [x]).Nodup)).2.2 x hm x (List.mem_singleton.mpr rfl) rfl
theorem str_at {ws : List Str} {i : Nat} {x : V} (h : (ws.map V.str)[i]? = some x) : ∃ y, ws[i]? = some y ∧ x = .str y := by
  rw [List.getElem?_map] at h
  cases hy : ws[i]? with
  | none => rw [hy] at h; cases h
  | some y => rw [hy] at h; exact ⟨y, rfl, (Option.some.inj h).symm⟩
section
variable {P : Program} {w : World} {K : PySem.W.Frag} {mg : Str → Option Value} {base : Heap} {C_Shape C_InvalidShape C_InvalidData C_StayError : Addr}
def okFe (p : Str × List Str) : Prop := isW p.1 ∧ 2 ≤ p.2.length ∧ p.2.length ≤ 3 ∧ (∀ x ∈ p.2, isW x) ∧ p.2.Nodup
def spFieldsG : Sp := fun vs H Q _ => ∃ (S c : Addr), vs = [.ref S, .int 2] ∧ StAt H S c ∧ ∀ H' q f, Mv S c H H' → Rep H' 3 (fun b => H b = none) (flD f) (.ref q) → okFl f → Q (.ref q) H'
theorem ok__law_fields (T : Txt K mg C_Shape C_InvalidShape C_InvalidData C_StayError) (R : Prg K mg C_Shape C_InvalidShape C_InvalidData C_StayError) : ∃ f fd, Fn P w K mg base "_law_fields" 4 ["_law_stream_here", "_law_most"] spFieldsG f fd := by
  obtain ⟨_, _, G__law_names⟩ := ok__law_names (P := P) (w := w) (base := base) T R
  obtain ⟨_, _, G__law_draw⟩ := ok__law_draw (P := P) (w := w) (base := base) T R
  obtain ⟨f, fd, at_, F, kp⟩ := R._law_fields
  refine ⟨f, fd, F.ok sc__law_fields (fun vs H Q E h => ?_) (fun cdv A outer s H vs Q E hr h => ?_), at_, kp, F.binds (fun _ _ _ _ _ _ us hl => match us, hl with | [_, _], _ => rfl)⟩
  · obtain ⟨S, c, rfl, _⟩ := h; rfl
  · obtain ⟨S, c, rfl, st, k⟩ := h
    refine ⟨_, (pss_cons (ps_set (i := 2) sc__law_fields.nd rfl (Or.inl rfl) pe_dnewK)
  (pss_cons (ps_for PassesOwn.never rfl (show PI _ _ _ (iList K _) from pi_list (pcl G__law_names hr (pa_cons (pv 0) (pa_cons (pcl G__law_draw hr (pa_cons (pv 0) (pa_cons (pe_op op_add (pv 1) pe_int) pa_nil))) (pa_cons (pe_lst pa_nil) pa_nil))))) (pg_name (i := 3) sc__law_fields.nd rfl (Or.inl rfl))
    (pss_one (ps_dput (hu_of hr) (pv 2) (pv 3) (pe_callTy (r := rTupA K) call_tuple_of (by rfl) T.tuple (by decide +kernel) (pa_cons (pcl G__law_names hr (pa_cons (pv 0) (pa_cons (pe_op op_add pe_int (pcl G__law_draw hr (pa_cons (pv 0) (pa_cons pe_int pa_nil)))) (pa_cons (pe_lst pa_nil) pa_nil)))) pa_nil)) rfl)))
  (pss_one (ps_ret (pv 2))))), ?_⟩
    intro d hd
    have md := Mv.new (o := .dK []) st hd
    refine ⟨_, rfl, _, rfl, _, rfl, _, _, rfl, rfl, S, c, 3, rfl, md.z, by decide, by decide, fun H2 r m2 r0 r1 => ⟨(by show 0 ≤ sizeLine; decide), fun t0 ht0 => ?_⟩⟩
    have m02 := (md.trans m2).trans (.new (o := .lst []) m2.z ht0)
    refine ⟨S, c, t0, r, rfl, m02.z, r0, by omega, upd_same, fun H3 q ws m3 hq hq3 lw wok wnd => ?_⟩
    have m03 := m02.trans m3
    have hd1 : H3 d = some (.dK []) := by
      refine m3.fr d _ (st.someS hd).1 (st.someS hd).2 ?_
      rw [upd_ne (fun e => by rw [← e, m2.fr d _ (st.someS hd).1 (st.someS hd).2 upd_same] at ht0; cases ht0)]
      exact m2.fr d _ (st.someS hd).1 (st.someS hd).2 upd_same
    have nqd : q ≠ d := fun e => by rw [e, hd1] at hq3; cases hq3
    have qS : q ≠ S ∧ q ≠ c := m02.z.someS hq
    refine ⟨q, rfl, ⟨_, Evl.sq_of hq3⟩, for_list (K := K) (a := q) (xs := ws.map V.str) (fun i σ' H' => ∃ (es : List (Key × V)) (f : Fl) (o3 : Option V), σ' = [some (.ref S), some (.int 2), some (.ref d), o3] ∧ Mv S c H H' ∧ H' q = some (.lst (ws.map V.str)) ∧ H' d = some (.dK es) ∧ f.map (·.1) = ws.take i ∧ (∀ p ∈ f, okFe p) ∧
      Paired (fun (x : Str × D) (e : Key × V) => e.1 = Sum.inr x.1 ∧ Rep H' 2 (fun b => H b = none ∧ b ≠ d) x.2 e.2) (f.map fun p => (p.1, .tup (p.2.map .str))) es) ⟨[], [], _, rfl, m03, hq3, hd1, rfl, fun p hp => (nomatch hp), .nil⟩ (fun i σ' H' _ ⟨_, _, _, _, _, h, _⟩ => Evl.sq_of h) (fun i x σ' H' hx pv => ?_) fun σ' H' pv => ?_⟩
    · obtain ⟨es, f, o3, rfl, mH, hqH, hdH, fk, fok, pr⟩ := pv
      obtain ⟨y, hy, rfl⟩ := str_at hx
      refine ⟨_, rfl, _, rfl, S, c, 2, rfl, mH.z, by decide, by decide, fun H5 r5 m5 s0 s1 => ⟨_, _, rfl, rfl, (by show 0 ≤ sizeLine; decide), fun t1 ht1 => ?_⟩⟩
      have m6 := m5.trans (.new (o := .lst []) m5.z ht1)
      refine ⟨S, c, t1, 2 + r5, rfl, m6.z, by omega, by omega, upd_same, fun H7 q7 xs m7 hq7 hq77 lx xok xnd => ?_⟩
      refine ⟨q7, _, rfl, .inl ⟨Evl.sq_of hq77, fun tp htp => ?_⟩⟩
      have m8 := (m6.trans m7).tx (Ex.new (o := .tup (xs.map V.str)) htp)
      have dS := st.someS hd
      have hd8 := m8.fr d _ dS.1 dS.2 hdH
      have hq8 := m8.fr q _ qS.1 qS.2 hqH
      have ht8 : (upd H7 tp (.tup (xs.map V.str))) tp = some (.tup (xs.map V.str)) := upd_same
      generalize (upd H7 tp (.tup (xs.map V.str))) = H8 at m8 hd8 hq8 ht8 ⊢
      have les : es.length ≤ 100 := by
        have h1 := pair_len pr
        have h2 : f.length ≤ ws.length := by
          have := congrArg List.length fk
          rw [List.length_map, List.length_take] at this
          omega
        rw [List.length_map] at h1
        omega
      have nv : valV es (Sum.inr y : Key) = none := pair_no (F := fun x v => Rep H' 2 (fun b => H b = none ∧ b ≠ d) x v) pr (lk_none (by rw [List.map_map]; show y ∉ f.map (·.1); rw [fk]; exact not_take wnd hy))
      refine ⟨_, rfl, _, rfl, d, _, rfl, .inl ⟨es, Sum.inr y, hd8, rfl, Evl.sz_lt (by omega), rfl⟩, ?_⟩
      refine ⟨es ++ [(Sum.inr y, .ref tp)], f ++ [(y, xs)], _, rfl, (mH.trans m8).mut hd, by rw [upd_ne nqd]; exact hq8, by rw [upd_same, putK_new _ nv], by rw [List.map_append, fk, take_snoc hy]; rfl, fun p hp => ?_, ?_⟩
      · rcases List.mem_append.mp hp with hp | hp
        · exact fok p hp
        · rw [List.mem_singleton.mp hp]
          exact ⟨wok y (List.mem_of_getElem? hy), by show 2 ≤ xs.length; omega, by show xs.length ≤ 3; omega, xok, xnd⟩
      · rw [List.map_append]
        have tr : ∀ {x : D} {v : V}, Rep H8 2 (fun b => H b = none ∧ b ≠ d) x v → Rep (upd H8 d (.dK (putK es (Sum.inr y) (.ref tp)))) 2 (fun b => H b = none ∧ b ≠ d) x v := fun h => rep_lock hd8 (fun b z => z.2) h
        refine pair_snoc (pair_imp pr fun a b h => ⟨h.1, tr (rep_mv m8 (fun z => (st.someS z.1).1 rfl) (fun z => (st.someS z.1).2 rfl) h.2)⟩) ⟨rfl, tr ?_⟩
        exact ⟨tp, _, rfl, ht8, by show (xs.map D.str).length ≤ 100000; rw [List.length_map]; omega, pair_strs⟩
    · obtain ⟨es, f, o3, rfl, mH, hqH, hdH, fk, fok, pr⟩ := pv
      rw [List.length_map, List.take_of_length_le (Nat.le_refl _)] at fk
      have lf : f.length = ws.length := by rw [← fk, List.length_map]
      exact Evl.s_ret (Evl.ev_var rfl) fun H7 e7 => k H7 d f (mH.tx e7) (rep_ex e7 ⟨d, es, rfl, hd, hdH, by rw [List.length_map]; omega, pr⟩) ⟨by omega, by rw [fk]; exact wnd, fok⟩
end
end Pk

namespace Pk
open PySem PySem.Spec PyProof.Rows L2 Ssb
open Evl (Ex Ev EvT EvL EvA EvU)
theorem merge2 {k1 k2 : Str} {v1 v2 : V} (ne : k1 ≠ k2) : mergeK [] [((Sum.inr k1 : Key), v1), (Sum.inr k2, v2)] = [(Sum.inr k1, v1), (Sum.inr k2, v2)] := by
  show putK (putK [] (Sum.inr k1 : Key) v1) (Sum.inr k2) v2 = _
  rw [putK_new _ (by rfl : valV ([] : List (Key × V)) (Sum.inr k1) = none), List.nil_append, putK_new]
  · rfl
  · rw [vV_cons, if_neg fun z => ne (Sum.inr.inj z)]; rfl
theorem merge3 {k1 k2 k3 : Str} {v1 v2 v3 : V} (ne : k1 ≠ k2) (n13 : k1 ≠ k3) (n23 : k2 ≠ k3) : mergeK [] [((Sum.inr k1 : Key), v1), (Sum.inr k2, v2), (Sum.inr k3, v3)] = [(Sum.inr k1, v1), (Sum.inr k2, v2), (Sum.inr k3, v3)] := by
  show putK (mergeK [] [((Sum.inr k1 : Key), v1), (Sum.inr k2, v2)]) (Sum.inr k3) v3 = _
  rw [merge2 ne, putK_new]
  · rfl
  · rw [vV_cons, if_neg fun z => n13 (Sum.inr.inj z), vV_cons, if_neg fun z => n23 (Sum.inr.inj z)]; rfl
theorem nFI : ¬ (("fields" : Str) = "inner") := by decide +kernel
theorem lk2a {d1 d2 : D} : List.lookup ("fields" : Str) [(("fields" : Str), d1), (("inner" : Str), d2)] = some d1 := by rw [lk_cons, if_pos rfl]
theorem lk2b {d1 d2 : D} : List.lookup ("inner" : Str) [(("fields" : Str), d1), (("inner" : Str), d2)] = some d2 := by rw [lk_cons, if_neg (fun e => nFI e.symm), lk_cons, if_pos rfl]
section
variable {P : Program} {w : World} {K : PySem.W.Frag} {mg : Str → Option Value} {base : Heap} {C_Shape C_InvalidShape C_InvalidData C_StayError : Addr}
/-- the j-th list of the description, its names out of ws -/
def okJ (ws : List Str) (j : Nat) (p : Str × Fl × List (Str × Fl)) : Prop := ws[j]? = some p.1 ∧ okFl p.2.1 ∧ (p.2.2 = [] ∨ ∃ x f, p.2.2 = [(x, f)] ∧ ws[j + 2]? = some x ∧ okFl f)
theorem okSh_of {ws : List Str} {s : Sh} (hn : ws.Nodup) (hl : ws.length = 4) (hw : ∀ x ∈ ws, isW x) (h2 : s.length ≤ 2) (h : ∀ j p, s[j]? = some p → okJ ws j p) : okSh s := by
  refine ⟨h2, ?_, fun p hp => ?_⟩
  · obtain ⟨w0, w1, w2, w3, rfl⟩ : ∃ a b c d, ws = [a, b, c, d] := by
      match ws, hl with
      | [a, b, c, d], _ => exact ⟨a, b, c, d, rfl⟩
    have n : w0 ≠ w1 ∧ w0 ≠ w2 ∧ w0 ≠ w3 ∧ w1 ≠ w2 ∧ w1 ≠ w3 ∧ w2 ≠ w3 := by
      simp only [List.nodup_cons, List.mem_cons, List.not_mem_nil, or_false, not_or] at hn
      exact ⟨hn.1.1, hn.1.2.1, hn.1.2.2, hn.2.1.1, hn.2.1.2, hn.2.2.1⟩
    obtain ⟨n1, n2, n3, n4, n5, n6⟩ := n
    match s, h2, h with
    | [], _, _ => exact List.nodup_nil
    | [a], _, h =>
      obtain ⟨a1, _, a3⟩ := h 0 a rfl
      obtain ⟨an, af, ai⟩ := a
      cases a1
      rcases a3 with e | ⟨x, f, e, a4, _⟩
      · cases e; simp [rowsS, rowsOf]
      · cases e; cases a4; simp [rowsS, rowsOf, n2]
    | [a, b], _, h =>
      obtain ⟨a1, _, a3⟩ := h 0 a rfl
      obtain ⟨b1, _, b3⟩ := h 1 b rfl
      obtain ⟨an, af, ai⟩ := a
      obtain ⟨bn, bf, bi⟩ := b
      cases a1
      cases b1
      rcases a3 with e | ⟨x, f, e, a4, _⟩
      · cases e
        rcases b3 with e | ⟨y, g, e, b4, _⟩
        · cases e; simp [rowsS, rowsOf, n1]
        · cases e; cases b4; simp [rowsS, rowsOf, n1, n3, n5]
      · cases e; cases a4
        rcases b3 with e | ⟨y, g, e, b4, _⟩
        · cases e; simp [rowsS, rowsOf, n1, n2, Ne.symm n4]
        · cases e; cases b4; simp [rowsS, rowsOf, n1, n2, n3, n5, Ne.symm n4, n6]
  · obtain ⟨j, hj, e⟩ := List.mem_iff_getElem.mp hp
    obtain ⟨p1, p2, p3⟩ := h j p (by rw [← e]; exact List.getElem?_eq_getElem hj)
    refine ⟨hw _ (List.mem_of_getElem? p1), p2, ?_, ?_⟩
    · rcases p3 with e | ⟨x, f, e, _⟩ <;> rw [e] <;> simp
    · rcases p3 with e | ⟨x, f, e, hx, hf⟩
      · rw [e]; intro q hq; cases hq
      · rw [e]; intro q hq
        rw [List.mem_singleton.mp hq]
        exact ⟨hw _ (List.mem_of_getElem? hx), hf⟩
def spListsG : Sp := fun vs H Q _ => ∃ (S c : Addr), vs = [.ref S, .int 2] ∧ StAt H S c ∧ ∀ H' q d s, Mv S c H H' → Rep H' 7 (fun b => H b = none) d (.ref q) → shD d s → okSh s → Q (.ref q) H'
def rep1 (H0 H' : Hp) (d : Addr) (l : List (Str × D)) (es : List (Key × V)) : Prop := Paired (fun (x : Str × D) (e : Key × V) => e.1 = Sum.inr x.1 ∧ Rep H' 6 (fun b => H0 b = none ∧ b ≠ d) x.2 e.2) l es
theorem ok__law_lists (T : Txt K mg C_Shape C_InvalidShape C_InvalidData C_StayError) (R : Prg K mg C_Shape C_InvalidShape C_InvalidData C_StayError) : ∃ f fd, Fn P w K mg base "_law_lists" 5 ["_law_stream_here", "_law_most"] spListsG f fd := by
  obtain ⟨_, _, G__law_names⟩ := ok__law_names (P := P) (w := w) (base := base) T R
  obtain ⟨_, _, G__law_draw⟩ := ok__law_draw (P := P) (w := w) (base := base) T R
  obtain ⟨_, _, G__law_fields⟩ := ok__law_fields (P := P) (w := w) (base := base) T R
  obtain ⟨f, fd, at_, F, kp⟩ := R._law_lists
  refine ⟨f, fd, F.ok sc__law_lists (fun vs H Q E h => ?_) (fun cdv A outer s H vs Q E hr h => ?_), at_, kp, F.binds (fun _ _ _ _ _ _ us hl => match us, hl with | [_, _], _ => rfl)⟩
  · obtain ⟨S, c, rfl, _⟩ := h; rfl
  · obtain ⟨S, c, rfl, st, k⟩ := h
    refine ⟨_, (pss_cons (ps_set (i := 2) sc__law_lists.nd rfl (Or.inl rfl) (pcl G__law_names hr (pa_cons (pv 0) (pa_cons pe_int (pa_cons (pe_lst pa_nil) pa_nil)))))
  (pss_cons (ps_set (i := 3) sc__law_lists.nd rfl (Or.inl rfl) pe_dnewK)
  (pss_cons (ps_for PassesOwn.never rfl (pi_range1 (by rfl) T.range (pa_cons (pe_ix (r := rIxT K) ix_tup (pe_tup (pa_cons pe_int (pa_cons pe_int (pa_cons pe_int (pa_cons pe_int (pa_cons pe_int pa_nil)))))) (pcl G__law_draw hr (pa_cons (pv 0) (pa_cons pe_int pa_nil))) (fun _ _ => rfl)) pa_nil)) (pg_name (i := 4) sc__law_lists.nd rfl (Or.inl rfl))
    (pss_cons (ps_set (i := 5) sc__law_lists.nd rfl (Or.inl rfl) pe_dnewK)
  (Evl.pss_cut (ps_if (pt_cmpR op_eq (pcl G__law_draw hr (pa_cons (pv 0) (pa_cons pe_int pa_nil))) pe_int (nomark _)) (pss_one (ps_dput (hu_of hr) (pv 5) (pe_ix (r := rIxL K) ix_list (pv 2) (pe_op op_add (pv 4) pe_int) (fun _ _ => rfl)) (pe_disp (pps_cons pe_str (pcl G__law_fields hr (pa_cons (pv 0) (pa_cons (pv 1) pa_nil))) (pps_cons pe_str pe_dnewK pps_nil)) (by rfl) (by rfl) (fun z => by cases z) (by decide)) rfl)) pss_nil)
  (pss_one (ps_dput (hu_of hr) (pv 3) (pe_ix (r := rIxL K) ix_list (pv 2) (pv 4) (fun _ _ => rfl)) (pe_disp (pps_cons pe_str (pcl G__law_fields hr (pa_cons (pv 0) (pa_cons (pv 1) pa_nil))) (pps_cons pe_str (pv 5) pps_nil)) (by rfl) (by rfl) (fun z => by cases z) (by decide)) rfl)))))
  (pss_one (ps_ret (pv 3)))))), ?_⟩
    refine ⟨_, rfl, (by show 0 ≤ sizeLine; decide), fun t0 ht0 => ⟨S, c, t0, 4, rfl, (Mv.new st ht0).z, by decide, by decide, upd_same, fun H1 q ws m1 hq hq1 lw wok wnd => ?_⟩⟩
    have m01 := (Mv.new (o := .lst []) st ht0).trans m1
    have hqn : H q = none := (Mv.new (o := .lst []) st ht0).back hq
    have qS := st.someS hqn
    have l4 : ws.length = 4 := by omega
    intro d hd
    have hdn : H d = none := m01.back hd
    have dS := st.someS hdn
    have nqd : q ≠ d := fun e => by rw [← e, hq1] at hd; cases hd
    have m02 := m01.tx (Ex.new (o := .dK []) hd)
    refine ⟨(by show 5 ≤ sizeLine; decide), fun tp htp => ?_⟩
    have m03 := m02.tx (Ex.new (o := .tup [.int 1, .int 1, .int 2, .int 0, .int 2]) htp)
    refine ⟨_, rfl, S, c, 5, rfl, m03.z, by decide, by decide, fun H4 r m4 r0 r1 => ?_⟩
    have m04 := m03.trans m4
    have hq4 : H4 q = some (.lst (ws.map V.str)) := m4.fr q _ qS.1 qS.2 (Ex.new htp _ _ (Ex.new hd _ _ hq1))
    have hd4 : H4 d = some (.dK []) := m4.fr d _ dS.1 dS.2 (Ex.new htp _ _ upd_same)
    obtain ⟨n, hn, n0, n2⟩ : ∃ n : Int, atI [V.int 1, .int 1, .int 2, .int 0, .int 2] r = some (.int n) ∧ 0 ≤ n ∧ n ≤ 2 := by
      rcases (by omega : r = 0 ∨ r = 1 ∨ r = 2 ∨ r = 3 ∨ r = 4) with rfl | rfl | rfl | rfl | rfl
      · exact ⟨1, rfl, by decide, by decide⟩
      · exact ⟨1, rfl, by decide, by decide⟩
      · exact ⟨2, rfl, by decide, by decide⟩
      · exact ⟨0, rfl, by decide, by decide⟩
      · exact ⟨2, rfl, by decide, by decide⟩
    refine ⟨tp, _, r, .int n, rfl, rfl, Evl.st_of (m4.tup upd_same), hn, n, rfl, by omega, by omega, ?_⟩
    refine for_it walk_range (fun i σ' H' => ∃ (es : List (Key × V)) (l : List (Str × D)) (s : Sh) (o4 o5 : Option V), σ' = [some (.ref S), some (.int 2), some (.ref q), some (.ref d), o4, o5] ∧ Mv S c H H' ∧ H' q = some (.lst (ws.map V.str)) ∧ H' d = some (.dK es) ∧ rep1 H H' d l es ∧
      Paired (fun (p : Str × D) (q : Str × Fl × List (Str × Fl)) => p.1 = q.1 ∧ ls1 p.2 q.2.1 q.2.2) l s ∧ s.length = i ∧ ∀ j p, s[j]? = some p → okJ ws j p) ⟨[], [], [], _, _, rfl, m04, hq4, hd4, .nil, .nil, rfl, fun j p h => (nomatch h)⟩ (fun _ _ _ _ _ => trivial) (fun i x σ' H0 H' hi pv y => ?_) fun σ' H' pv => ?_
    · obtain ⟨es, l, s, o4, o5, rfl, mH, hqH, hdH, pr, prs, ls, hj⟩ := pv
      obtain ⟨rfl, rfl⟩ := y
      show gName 4 (V.int ((0 : Int) + (i : Int))) _ _ _
      rw [Int.zero_add]
      have i2 : i < 2 := by omega
      obtain ⟨nm, hnm⟩ : ∃ nm, ws[i]? = some nm := ⟨_, List.getElem?_eq_getElem (by omega)⟩
      obtain ⟨nm2, hnm2⟩ : ∃ nm, ws[i + 2]? = some nm := ⟨_, List.getElem?_eq_getElem (by omega)⟩
      have at1 : atI (ws.map V.str) (i : Int) = some (.str nm) := atI_nat (by rw [List.getElem?_map, hnm]; rfl)
      have at2 : atI (ws.map V.str) ((i : Int) + 2) = some (.str nm2) := by
        have := atI_nat (xs := ws.map V.str) (j := i + 2) (v := .str nm2) (by rw [List.getElem?_map, hnm2]; rfl)
        rw [← this]; congr 1
      intro e he
      have hen := mH.back he
      have eS := st.someS hen
      have ned : e ≠ d := fun z => by rw [z, hdH] at he; cases he
      have neq : q ≠ e := fun z => by rw [← z, hqH] at he; cases he
      refine Evl.q_cut (M := fun σ' H2 => ∃ (el : List (Str × D)) (ii : List (Str × Fl)) (ie : List (Key × V)), σ' = [some (.ref S), some (.int 2), some (.ref q), some (.ref d), some (.int i), some (.ref e)] ∧ Mv S c H' H2 ∧ H2 e = some (.dK ie) ∧ el.length ≤ 1 ∧
        Paired (fun (x : Str × D) (en : Key × V) => en.1 = Sum.inr x.1 ∧ Rep H2 4 (fun b => H b = none ∧ b ≠ d ∧ b ≠ e) x.2 en.2) el ie ∧ Paired (fun (p : Str × D) (q : Str × Fl) => p.1 = q.1 ∧ ls0 p.2 q.2) el ii ∧ (ii = [] ∨ ∃ x f, ii = [(x, f)] ∧ ws[i + 2]? = some x ∧ okFl f)) ?_ ?_
      · have m5 := Mv.new (o := .dK []) mH.z he
        refine ⟨_, rfl, S, c, 2, rfl, m5.z, by decide, by decide, fun H6 r6 m6 _ _ => ⟨rfl, _, rfl, ?_⟩⟩
        have he6 : H6 e = some (.dK []) := m6.fr e _ eS.1 eS.2 upd_same
        have m06 := m5.trans m6
        refine ite2 (fun _ => ?_) (fun _ => ?_)
        · intro p1 hp1
          have m7 := Mv.new (o := .dK []) m6.z hp1
          refine ⟨_, rfl, _, rfl, S, c, rfl, m7.z, fun H8 fq ff m8 hff okf => ?_⟩
          intro e2 he2
          have p1S := m6.z.someS hp1
          have hp8 : H8 p1 = some (.dK []) := m8.fr p1 _ p1S.1 p1S.2 upd_same
          refine ⟨Ex.new he2 _ _ hp8, [(Sum.inr "fields", .ref fq), (Sum.inr "inner", .ref e2)], rfl, (by show 2 ≤ 15; decide), ?_⟩
          rw [merge2 nFI]
          have mA : Mv S c H6 (upd (upd H8 e2 (.dK [])) p1 (.dK [(Sum.inr "fields", .ref fq), (Sum.inr "inner", .ref e2)])) := ((m7.trans m8).tx (Ex.new he2)).mut hp1
          have heA := mA.fr e _ eS.1 eS.2 he6
          have hqA := mA.fr q _ qS.1 qS.2 (m06.fr q _ qS.1 qS.2 hqH)
          have np12 : p1 ≠ e2 := fun z => by rw [← z, hp8] at he2; cases he2
          have npe : p1 ≠ e := fun z => by rw [z, he6] at hp1; cases hp1
          have npd : p1 ≠ d := fun z => by rw [z, m06.fr d _ dS.1 dS.2 hdH] at hp1; cases hp1
          have he28 : H6 e2 = none := (m7.trans m8).back he2
          have n2e : e2 ≠ e := fun z => by rw [z, he6] at he28; cases he28
          have n2d : e2 ≠ d := fun z => by rw [z, m06.fr d _ dS.1 dS.2 hdH] at he28; cases he28
          have hpA : (upd (upd H8 e2 (.dK [])) p1 (.dK [(Sum.inr "fields", .ref fq), (Sum.inr "inner", .ref e2)])) p1 = some (.dK [(Sum.inr "fields", .ref fq), (Sum.inr "inner", .ref e2)]) := upd_same
          have heA2 : (upd (upd H8 e2 (.dK [])) p1 (.dK [(Sum.inr "fields", .ref fq), (Sum.inr "inner", .ref e2)])) e2 = some (.dK []) := by rw [upd_ne (Ne.symm np12), upd_same]
          have hfA : Rep (upd (upd H8 e2 (.dK [])) p1 (.dK [(Sum.inr "fields", .ref fq), (Sum.inr "inner", .ref e2)])) 3 (fun b => (H b = none ∧ b ≠ d ∧ b ≠ e) ∧ b ≠ p1) (flD ff) (.ref fq) := by
            have h7 : ∀ {b : Addr} {o : HO}, H6 b = some o → (upd H6 p1 (.dK [])) b ≠ none := fun {b o} hb => by
              rw [Ex.new hp1 _ _ hb]; exact fun z => nomatch z
            refine rep_upd (Ex.new he2 _ _ hp8) (fun _ z => nomatch z) (fun b hb => hb.2) (rep_ex (Ex.new he2) (rep_S (fun b hb => ⟨⟨(mH.trans (m06.trans m7)).back hb, fun z => ?_, fun z => ?_⟩, fun z => ?_⟩) hff))
            · rw [z] at hb; exact h7 (m06.fr d _ dS.1 dS.2 hdH) hb
            · rw [z] at hb; exact h7 he6 hb
            · rw [z, upd_same] at hb; cases hb
          generalize (upd (upd H8 e2 (.dK [])) p1 (.dK [(Sum.inr "fields", .ref fq), (Sum.inr "inner", .ref e2)])) = HA at mA heA hqA hpA heA2 hfA ⊢
          refine ⟨_, rfl, _, rfl, _, rfl, _, _, rfl, rfl, q, _, _, _, rfl, rfl, Evl.sq_of hqA, at2, e, _, rfl, .inl ⟨[], Sum.inr nm2, heA, rfl, (by show 0 < sizeLine; decide), rfl⟩, ?_⟩
          have up : ∀ {n : Nat} {x : D} {v : V}, Rep HA n (fun b => H b = none ∧ b ≠ d ∧ b ≠ e) x v → Rep (upd HA e (.dK (putK [] (Sum.inr nm2) (.ref p1)))) n (fun b => H b = none ∧ b ≠ d ∧ b ≠ e) x v := fun h => rep_upd heA (fun _ z => nomatch z) (fun b z => z.2.2) h
          have hp1n : H p1 = none := (mH.trans m06).back hp1
          have he2n : H e2 = none := (mH.trans m06).back he28
          refine ⟨[(nm2, .dic [("fields", flD ff), ("inner", .dic [])])], [(nm2, ff)], _, rfl, (m06.trans mA).mut he, upd_same, Nat.le_refl _, ?_, ?_, .inr ⟨nm2, ff, rfl, hnm2, okf⟩⟩
          · rw [putK_new _ (by rfl)]
            refine .cons ⟨rfl, ?_⟩ .nil
            have := up (n := 4) (x := .dic [("fields", flD ff), ("inner", .dic [])]) (v := .ref p1) ⟨p1, _, rfl, ⟨hp1n, npd, npe⟩, hpA, (by show 2 ≤ 100000; decide), .cons ⟨rfl, hfA⟩ (.cons ⟨rfl, e2, [], rfl, ⟨⟨he2n, n2d, n2e⟩, Ne.symm np12⟩, heA2, Nat.zero_le _, .nil⟩ .nil)⟩
            rw [putK_new _ (by rfl)] at this
            exact this
          · exact .cons ⟨rfl, _, rfl, rfl, lk2a, lk2b⟩ .nil
        · exact ⟨[], [], [], rfl, m06, he6, Nat.zero_le _, .nil, .nil, .inl rfl⟩
      · rintro σ' H2 ⟨el, ii, ie, rfl, m2, he2, el1, pe, pls, hii⟩
        have hq2 := m2.fr q _ qS.1 qS.2 hqH
        have hd2 := m2.fr d _ dS.1 dS.2 hdH
        intro p1 hp1
        have m7 := Mv.new (o := .dK []) m2.z hp1
        refine ⟨_, rfl, _, rfl, S, c, rfl, m7.z, fun H8 fq ff m8 hff okf => ?_⟩
        have p1S := m2.z.someS hp1
        have hp8 : H8 p1 = some (.dK []) := m8.fr p1 _ p1S.1 p1S.2 upd_same
        refine ⟨_, rfl, hp8, [(Sum.inr "fields", .ref fq), (Sum.inr "inner", .ref e)], rfl, (by show 2 ≤ 15; decide), ?_⟩
        rw [merge2 nFI]
        have mA : Mv S c H2 (upd H8 p1 (.dK [(Sum.inr "fields", .ref fq), (Sum.inr "inner", .ref e)])) := (m7.trans m8).mut hp1
        have heA := mA.fr e _ eS.1 eS.2 he2
        have hqA := mA.fr q _ qS.1 qS.2 hq2
        have hdA := mA.fr d _ dS.1 dS.2 hd2
        have npe : p1 ≠ e := fun z => by rw [z, he2] at hp1; cases hp1
        have npd : p1 ≠ d := fun z => by rw [z, hd2] at hp1; cases hp1
        have hpA : (upd H8 p1 (.dK [(Sum.inr "fields", .ref fq), (Sum.inr "inner", .ref e)])) p1 = some (.dK [(Sum.inr "fields", .ref fq), (Sum.inr "inner", .ref e)]) := upd_same
        have hfA : Rep (upd H8 p1 (.dK [(Sum.inr "fields", .ref fq), (Sum.inr "inner", .ref e)])) 3 (fun b => (H b = none ∧ b ≠ d) ∧ b ≠ p1) (flD ff) (.ref fq) := by
          refine rep_upd hp8 (fun _ z => nomatch z) (fun b hb => hb.2) (rep_S (fun b hb => ⟨⟨(mH.trans (m2.trans m7)).back hb, fun z => ?_⟩, fun z => ?_⟩) hff)
          · rw [z, Ex.new hp1 _ _ hd2] at hb; cases hb
          · rw [z, upd_same] at hb; cases hb
        have peA := pair_imp pe fun a b h => (⟨h.1, rep_mv mA (fun z => (st.someS z.1.1).1 rfl) (fun z => (st.someS z.1.1).2 rfl) (rep_Sd (S' := fun b => (H b = none ∧ b ≠ d ∧ b ≠ e) ∧ b ≠ p1) (fun b hb hb2 => ⟨hb, fun z => hb2 (by rw [z]; exact hp1)⟩) h.2)⟩ : b.1 = Sum.inr a.1 ∧ _)
        have prA : rep1 H (upd H8 p1 (.dK [(Sum.inr "fields", .ref fq), (Sum.inr "inner", .ref e)])) d l es := pair_imp pr fun a b h => ⟨h.1, rep_mv (m2.trans mA) (fun z => (st.someS z.1).1 rfl) (fun z => (st.someS z.1).2 rfl) h.2⟩
        generalize (upd H8 p1 (.dK [(Sum.inr "fields", .ref fq), (Sum.inr "inner", .ref e)])) = HA at mA heA hqA hdA hpA hfA peA prA ⊢
        have lk : l.map (·.1) = ws.take i := by
          refine List.ext_getElem? fun j => ?_
          rw [List.getElem?_map, List.getElem?_take]
          by_cases jl : j < i
          · rw [if_pos jl]
            cases hs : s[j]? with
            | none => exact absurd (List.getElem?_eq_none_iff.mp hs) (by omega)
            | some p =>
              obtain ⟨x, hx, h1, _⟩ := pair_back prs hs
              rw [hx, (hj j p hs).1]
              exact congrArg some h1
          · rw [if_neg jl, List.getElem?_eq_none_iff.mpr (by rw [pair_len prs, ls]; omega)]; rfl
        have nv : valV es (Sum.inr nm : Key) = none := pair_no (F := fun x v => Rep HA 6 (fun b => H b = none ∧ b ≠ d) x v) prA (lk_none (by rw [lk]; exact not_take wnd hnm))
        have les : es.length ≤ 2 := by rw [← pair_len pr, pair_len prs]; omega
        refine ⟨_, rfl, _, rfl, _, rfl, q, _, _, _, rfl, rfl, Evl.sq_of hqA, at1, d, _, rfl, .inl ⟨es, Sum.inr nm, hdA, rfl, Evl.sz_lt (by omega), rfl⟩, ?_⟩
        have hp1n : H p1 = none := (mH.trans m2).back hp1
        have up : ∀ {n : Nat} {x : D} {v : V}, Rep HA n (fun b => H b = none ∧ b ≠ d) x v → Rep (upd HA d (.dK (putK es (Sum.inr nm) (.ref p1)))) n (fun b => H b = none ∧ b ≠ d) x v := fun h => rep_upd hdA (fun _ z => nomatch z) (fun b z => z.2) h
        refine ⟨es ++ [(Sum.inr nm, .ref p1)], l ++ [(nm, .dic [("fields", flD ff), ("inner", .dic el)])], s ++ [(nm, ff, ii)], _, _, rfl, (mH.trans (m2.trans mA)).mut hdn, by rw [upd_ne nqd]; exact hqA, by rw [upd_same, putK_new _ nv], ?_, ?_, by rw [List.length_append, ls]; rfl, fun j p hp => ?_⟩
        · refine pair_snoc (pair_imp prA fun a b h => ⟨h.1, up h.2⟩) ⟨rfl, up (n := 6) ⟨p1, _, rfl, ⟨hp1n, npd⟩, hpA, (by show 2 ≤ 100000; decide), .cons ⟨rfl, rep_up (rep_up hfA)⟩ (.cons ⟨rfl, e, ie, rfl, ⟨⟨hen, ned⟩, Ne.symm npe⟩, heA, by omega, pair_imp peA fun a b h => ⟨h.1, rep_S (fun b hb => ⟨⟨⟨hb.1.1, hb.1.2.1⟩, hb.2⟩, hb.1.2.2⟩) h.2⟩⟩ .nil)⟩⟩
        · exact pair_snoc prs ⟨rfl, _, el, rfl, rfl, lk2a, lk2b, pls⟩
        · by_cases jl : j < s.length
          · rw [List.getElem?_append_left jl] at hp
            exact hj j p hp
          · rw [List.getElem?_append_right (by omega)] at hp
            have ej : j = i := by
              cases hc : j - s.length with
              | zero => omega
              | succ m => rw [hc] at hp; cases hp
            subst ej
            rw [ls, Nat.sub_self] at hp
            cases hp
            exact ⟨hnm, okf, hii⟩
    · obtain ⟨es, l, s, o4, o5, rfl, mH, hqH, hdH, pr, prs, ls, hj⟩ := pv
      have l2 : s.length ≤ 2 := by omega
      exact Evl.s_ret (Evl.ev_var rfl) fun H7 e7 => k H7 d (.dic l) s (mH.tx e7) (rep_ex e7 ⟨d, es, rfl, hdn, hdH, by rw [pair_len prs]; omega, pr⟩) ⟨l, rfl, prs⟩ (okSh_of wnd l4 wok l2 hj)
end
end Pk

namespace Pk
open PySem PySem.Spec PyProof.Rows L2 Ssb
open Evl (Ex Ev EvT EvL EvA EvU)
theorem ki_non_bool : isK .non "bool" = false := (show (kitB "NoneType" "bool").getD false = false by decide +kernel)
theorem ki_non_int : isK .non "int" = false := (show (kitB "NoneType" "int").getD false = false by decide +kernel)
theorem ki_non_str : isK .non "str" = false := (show (kitB "NoneType" "str").getD false = false by decide +kernel)
theorem ki_non_list : isK .non "list" = false := (show (kitB "NoneType" "list").getD false = false by decide +kernel)
theorem ki_non_tuple : isK .non "tuple" = false := (show (kitB "NoneType" "tuple").getD false = false by decide +kernel)
theorem ki_non_dict : isK .non "dict" = false := (show (kitB "NoneType" "dict").getD false = false by decide +kernel)
theorem ki_bl_bool {a : Bool} : isK (.bl a) "bool" = true := (show (kitB "bool" "bool").getD false = true by decide +kernel)
theorem ki_bl_int {a : Bool} : isK (.bl a) "int" = true := (show (kitB "bool" "int").getD false = true by decide +kernel)
theorem ki_bl_str {a : Bool} : isK (.bl a) "str" = false := (show (kitB "bool" "str").getD false = false by decide +kernel)
theorem ki_bl_list {a : Bool} : isK (.bl a) "list" = false := (show (kitB "bool" "list").getD false = false by decide +kernel)
theorem ki_bl_tuple {a : Bool} : isK (.bl a) "tuple" = false := (show (kitB "bool" "tuple").getD false = false by decide +kernel)
theorem ki_bl_dict {a : Bool} : isK (.bl a) "dict" = false := (show (kitB "bool" "dict").getD false = false by decide +kernel)
theorem ki_int_bool {a : Int} : isK (.int a) "bool" = false := (show (kitB "int" "bool").getD false = false by decide +kernel)
theorem ki_int_int {a : Int} : isK (.int a) "int" = true := (show (kitB "int" "int").getD false = true by decide +kernel)
theorem ki_int_str {a : Int} : isK (.int a) "str" = false := (show (kitB "int" "str").getD false = false by decide +kernel)
theorem ki_int_list {a : Int} : isK (.int a) "list" = false := (show (kitB "int" "list").getD false = false by decide +kernel)
theorem ki_int_tuple {a : Int} : isK (.int a) "tuple" = false := (show (kitB "int" "tuple").getD false = false by decide +kernel)
theorem ki_int_dict {a : Int} : isK (.int a) "dict" = false := (show (kitB "int" "dict").getD false = false by decide +kernel)
theorem ki_str_bool {a : Str} : isK (.str a) "bool" = false := (show (kitB "str" "bool").getD false = false by decide +kernel)
theorem ki_str_int {a : Str} : isK (.str a) "int" = false := (show (kitB "str" "int").getD false = false by decide +kernel)
theorem ki_str_str {a : Str} : isK (.str a) "str" = true := (show (kitB "str" "str").getD false = true by decide +kernel)
theorem ki_str_list {a : Str} : isK (.str a) "list" = false := (show (kitB "str" "list").getD false = false by decide +kernel)
theorem ki_str_tuple {a : Str} : isK (.str a) "tuple" = false := (show (kitB "str" "tuple").getD false = false by decide +kernel)
theorem ki_str_dict {a : Str} : isK (.str a) "dict" = false := (show (kitB "str" "dict").getD false = false by decide +kernel)
theorem ki_lst_bool {a : List G} : isK (.lst a) "bool" = false := (show (kitB "list" "bool").getD false = false by decide +kernel)
theorem ki_lst_int {a : List G} : isK (.lst a) "int" = false := (show (kitB "list" "int").getD false = false by decide +kernel)
theorem ki_lst_str {a : List G} : isK (.lst a) "str" = false := (show (kitB "list" "str").getD false = false by decide +kernel)
theorem ki_lst_list {a : List G} : isK (.lst a) "list" = true := (show (kitB "list" "list").getD false = true by decide +kernel)
theorem ki_lst_tuple {a : List G} : isK (.lst a) "tuple" = false := (show (kitB "list" "tuple").getD false = false by decide +kernel)
theorem ki_lst_dict {a : List G} : isK (.lst a) "dict" = false := (show (kitB "list" "dict").getD false = false by decide +kernel)
theorem ki_tup_bool {a : List G} : isK (.tup a) "bool" = false := (show (kitB "tuple" "bool").getD false = false by decide +kernel)
theorem ki_tup_int {a : List G} : isK (.tup a) "int" = false := (show (kitB "tuple" "int").getD false = false by decide +kernel)
theorem ki_tup_str {a : List G} : isK (.tup a) "str" = false := (show (kitB "tuple" "str").getD false = false by decide +kernel)
theorem ki_tup_list {a : List G} : isK (.tup a) "list" = false := (show (kitB "tuple" "list").getD false = false by decide +kernel)
theorem ki_tup_tuple {a : List G} : isK (.tup a) "tuple" = true := (show (kitB "tuple" "tuple").getD false = true by decide +kernel)
theorem ki_tup_dict {a : List G} : isK (.tup a) "dict" = false := (show (kitB "tuple" "dict").getD false = false by decide +kernel)
theorem ki_dic_bool {a : List KG} : isK (.dic a) "bool" = false := (show (kitB "dict" "bool").getD false = false by decide +kernel)
theorem ki_dic_int {a : List KG} : isK (.dic a) "int" = false := (show (kitB "dict" "int").getD false = false by decide +kernel)
theorem ki_dic_str {a : List KG} : isK (.dic a) "str" = false := (show (kitB "dict" "str").getD false = false by decide +kernel)
theorem ki_dic_list {a : List KG} : isK (.dic a) "list" = false := (show (kitB "dict" "list").getD false = false by decide +kernel)
theorem ki_dic_tuple {a : List KG} : isK (.dic a) "tuple" = false := (show (kitB "dict" "tuple").getD false = false by decide +kernel)
theorem ki_dic_dict {a : List KG} : isK (.dic a) "dict" = true := (show (kitB "dict" "dict").getD false = true by decide +kernel)
theorem ev_isC {K : PySem.W.Frag} {σ : L2.St} {H : Hp} {te : TE} {m n : Nat} {S : Addr → Prop} {d : G} {v : V} {T : String} {b : Bool} (h : Ev te σ H v) (hr : Rp H m n S d v) (hb : isK d T = b) (hT : T ∈ ["bool", "int", "str", "list", "tuple", "dict"] := by decide) : Ev (tCB (rIsi K) (tCons te (tCons (tC (.ty T)) tNil))) σ H (.bl b) :=
  Evl.ev_is (ev_isG h hr hT) (by rw [hb])
theorem rv_ixQ {K : PySem.W.Frag} {H : Hp} {p : Addr} {xs : List V} {i : Int} {v : V} (h : SqL K H p xs ∨ SqT K H p xs) (ha : atI xs i = some v) : Evl.RV (rIx K) (.ref p) (.int i) H v := fun H1 e Q q =>
  h.elim (fun z => .inl ⟨p, xs, i, v, rfl, rfl, Evl.ex_l e z, ha, q H1 (Ex.refl H1)⟩) fun z => .inr (.inl ⟨p, xs, i, v, rfl, rfl, Evl.ex_t e z, ha, q H1 (Ex.refl H1)⟩)
theorem ex_q {K : PySem.W.Frag} {H H' : Hp} {a : Addr} {xs : List V} (e : Ex H H') (h : SqL K H a xs ∨ SqT K H a xs) : SqL K H' a xs ∨ SqT K H' a xs := h.imp (Evl.ex_l e) (Evl.ex_t e)
theorem rv_isN {x : V} : Evl.RV (fun x y H Q => y = .non ∧ Q (.bl (decide (x = .non))) H) x .non H (.bl (decide (x = .non))) := fun H1 _ _ q => ⟨rfl, q H1 (Ex.refl _)⟩
section
variable {P : Program} {w : World} {K : PySem.W.Frag} {mg : Str → Option Value} {base : Heap} {C_Shape C_InvalidShape C_InvalidData C_StayError : Addr}
def spCopy (n : Nat) : Sp := fun vs H Q _ => ∃ (v : V) (m : Nat) (P : Addr → Prop) (d : G), vs = [v] ∧ Rp H m n P d v ∧ m ≤ 90000 ∧ ∀ H' v', Ex H H' → Rp H' m n (fun b => H b = none) d v' → Q v' H'
theorem ok__law_copy (T : Txt K mg C_Shape C_InvalidShape C_InvalidData C_StayError) (R : Prg K mg C_Shape C_InvalidShape C_InvalidData C_StayError) : ∀ n, ∃ f fd, Fn P w K mg base "_law_copy" (n + 1) ["_law_value"] (spCopy n) f fd
  | 0 => by
    obtain ⟨f, fd, at_, F, kp⟩ := R._law_copy
    refine ⟨f, fd, F.ok sc__law_copy (fun vs H Q E h => ?_) (fun cdv A outer s H vs Q E hr h => ?_), at_, kp, F.binds (fun _ _ _ _ _ _ us hl => match us, hl with | [_], _ => rfl)⟩
    · obtain ⟨v, m, P, d, rfl, _⟩ := h; rfl
    · obtain ⟨v, m, P, d, rfl, h, _⟩ := h; exact h.elim
  | n + 1 => by
    obtain ⟨_, _, G__law_copy⟩ := ok__law_copy T R n
    obtain ⟨f, fd, at_, F, kp⟩ := R._law_copy
    refine ⟨f, fd, F.ok sc__law_copy (fun vs H Q E h => ?_) (fun cdv A outer s H vs Q E hr h => ?_), at_, kp, F.binds (fun _ _ _ _ _ _ us hl => match us, hl with | [_], _ => rfl)⟩
    · obtain ⟨v, m, P, d, rfl, _⟩ := h; rfl
    · obtain ⟨v, m, PP, d, rfl, hv, hm, k⟩ := h
      refine ⟨_, (pss_cons (ps_if (pt_val (pe_callB (r := rIsi K) call_isi (by rfl) T.isinstance (by decide +kernel) (pa_cons (pv 0) (pa_cons (pe_bltn (v := .ty "list") (by rfl) T.list boot_list rfl) pa_nil)))) (pss_one (ps_ret (pe_lc (own := [("_law_part", 3)]) rfl sc__law_copy.nd (show PI _ _ _ (iList K _) from pi_list (pv 0)) (blkOk_by (own := [("_law_part", 3)]) (N := ["_law_value", "_law_result", "_law_key", "_law_part"]) (sc := defScope s__law_copy) (by decide +kernel)) (fun _ _ _ _ _ => (pg_name (i := 3) sc__law_copy.nd rfl (Or.inl rfl))) (fun _ _ _ _ _ => pts_nil) (fun _ _ _ _ _ => (pcl G__law_copy hr (pa_cons (pv 3) pa_nil)))))) pss_nil)
  (pss_cons (ps_if (pt_val (pe_callB (r := rIsi K) call_isi (by rfl) T.isinstance (by decide +kernel) (pa_cons (pv 0) (pa_cons (pe_bltn (v := .ty "tuple") (by rfl) T.tuple boot_tuple rfl) pa_nil)))) (pss_one (ps_ret (pe_callTy (r := rTupA K) call_tuple_of (by rfl) T.tuple (by decide +kernel) (pa_cons (pe_lc (own := [("_law_part", 3)]) rfl sc__law_copy.nd (show PI _ _ _ (iTup K _) from pi_tup (pv 0)) (blkOk_by (own := [("_law_part", 3)]) (N := ["_law_value", "_law_result", "_law_key", "_law_part"]) (sc := defScope s__law_copy) (by decide +kernel)) (fun _ _ _ _ _ => (pg_name (i := 3) sc__law_copy.nd rfl (Or.inl rfl))) (fun _ _ _ _ _ => pts_nil) (fun _ _ _ _ _ => (pcl G__law_copy hr (pa_cons (pv 3) pa_nil)))) pa_nil)))) pss_nil)
  (pss_cons (ps_if (pt_val (pe_callB (r := rIsi K) call_isi (by rfl) T.isinstance (by decide +kernel) (pa_cons (pv 0) (pa_cons (pe_bltn (v := .ty "dict") (by rfl) T.dict boot_dict rfl) pa_nil)))) (pss_cons (ps_set (i := 1) sc__law_copy.nd rfl (Or.inl rfl) pe_dnewK)
  (pss_cons (ps_lock (ps_for PassesOwn.never rfl (pi_keys (pv 0)) (pg_name (i := 2) sc__law_copy.nd rfl (Or.inl rfl))
    (pss_one (ps_dput (hu_of hr) (pv 1) (pv 2) (pcl G__law_copy hr (pa_cons (pe_dget (hu_of hr) (pv 0) (pv 2) (fun _ _ => rfl)) pa_nil)) rfl))))
  (pss_one (ps_ret (pv 1))))) pss_nil)
  (pss_one (ps_ret (pv 0)))))), ?_⟩
      have kidL : ∀ {l : List G} {xs : List V} {H1 : Hp} {Q2 : VK} {J : It}, Walk J xs.length (fun H' => Ex H1 H') (YAt xs) → xs.length ≤ 90000 → Paired (fun d x => Rp H1 m n PP d x) l xs → (∀ H' Dl ys, H1 Dl = none → Ex H1 H' → H' Dl = some (.lst ys) → Paired (fun d x => Rp H' m n (fun b => H1 b = none ∧ b ≠ Dl) d x) l ys → Q2 (.ref Dl) H') →
          ∀ Dl, H1 Dl = none → ∃ W : Nat → Nat → Hp → Prop, (∃ m, W 0 m (upd H1 Dl (.lst []))) ∧ ∀ i m H, W i m H → (J.stop i H ∧ Q2 (.ref Dl) H) ∨ (J.go i H ∧ ∃ Nx : Hp → Prop, (∀ H', Nx H' → ∃ m', m' < m ∧ W (i + 1) m' H') ∧ ∀ x H', J.yld i H x H' → gName 3 x (wipe [some v, none, none, none] [3]) H' fun σ2 H2 => wipe σ2 [3] = wipe [some v, none, none, none] [3] ∧ tYes σ2 H2 fun b H3 =>
            if b = true then tCall (spCopy n) [] E0 (tCons (tVar 3) tNil) σ2 H3 fun y H4 => ∃ acc, H4 Dl = some (.lst acc) ∧ acc.length < sizeLine ∧ Nx (upd H4 Dl (.lst (acc ++ [y]))) else Nx H3) := by
        intro l xs H1 Q2 J wk l5 pr q Dl hD
        refine lc_it wk (fun i H' => Ex H1 H' ∧ ∃ ys, H' Dl = some (.lst ys) ∧ Paired (fun d x => Rp H' m n (fun b => H1 b = none ∧ b ≠ Dl) d x) (l.take i) ys) ⟨Ex.new hD, [], upd_same, .nil⟩ (fun i H' _ p => p.1) (fun i x H0 H' hi pv y => ?_) fun H' pv => ?_
        · obtain ⟨e, ys, hys, pys⟩ := pv
          obtain ⟨rfl, hx⟩ := y
          obtain ⟨dx, hdx, hrx⟩ := pair_back pr hx
          refine ⟨rfl, ?_⟩
          refine yes_go ?_
          refine ⟨_, rfl, x, m, PP, dx, rfl, rp_ex e hrx, hm, fun H3 v3 e3 hr3 => ⟨ys, e3 _ _ hys, ?_, Ex.mut (e.trans e3) hD, ys ++ [v3], upd_same, ?_⟩⟩
          · rw [← pair_len pys, List.length_take]; exact Evl.sz_lt (by omega)
          · rw [take_snocG hdx]
            refine pair_snoc (pair_imp pys fun a b h => rp_upd (e3 _ _ hys) (fun _ z => nomatch z) (fun b z => z.2) (rp_ex e3 h)) (rp_upd (e3 _ _ hys) (fun _ z => nomatch z) (fun b z => z.2) (rp_S (fun b hb => ⟨Evl.fresh_back e hb, fun z => by rw [z, hys] at hb; cases hb⟩) hr3))
        · obtain ⟨e, ys, hys, pys⟩ := pv
          rw [← pair_len pr, List.take_of_length_le (Nat.le_refl _)] at pys
          exact q H' Dl ys hD e hys pys
      have leaf : ∀ {H1 : Hp}, Ex H H1 → isLstG d = false → isTupG d = false → (dicG d).isSome = false → Q v H1 := fun {H1} e1 a b c => by
        refine k H1 v e1 ?_
        cases d with
        | lst l => cases a
        | tup l => cases b
        | dic l => cases c
        | non => exact hv
        | bl b => exact hv
        | int i => exact hv
        | str s => exact hv
      refine Evl.q_when (b := isLstG d) (Evl.et_B (Evl.ev_is (ev_isG (Evl.ev_var rfl) hv) (by rw [isK_lst]))) (fun hb H1 e1 => ?_) fun hb1 H1 e1 => ?_
      · cases d with
        | lst l =>
          obtain ⟨a, xs, rfl, _, ha, l5, pr⟩ := id hv
          have hv1 := pair_imp pr fun a b h => rp_ex e1 h
          refine ⟨_, rfl, a, rfl, ⟨_, Evl.sq_of (e1 _ _ ha)⟩, kidL (walk_list.mono (fun H' e => Evl.sq_of (e _ _ (e1 _ _ ha))) fun i H v H' _ _ y => y) (by rw [← pair_len pr]; omega) hv1 fun H' Dl ys hD e hys pys => ?_⟩
          exact k H' _ (e1.trans e) ⟨Dl, ys, rfl, Evl.fresh_back e1 hD, hys, l5, pair_imp pys fun a b h => rp_S (fun b hb => Evl.fresh_back e1 hb.1) h⟩
        | _ => cases hb
      refine Evl.q_when (b := isTupG d) (Evl.et_B (Evl.ev_is (ev_isG (Evl.ev_var rfl) (rp_ex e1 hv)) (by rw [isK_tup]))) (fun hb H2 e2 => ?_) fun hb2 H2 e2 => ?_
      · cases d with
        | tup l =>
          obtain ⟨a, xs, rfl, ha, l5, pr⟩ := id hv
          have e12 := e1.trans e2
          have hv2 := pair_imp pr fun a b h => rp_ex e12 h
          refine ⟨_, rfl, a, rfl, ⟨_, Evl.st_of (e12 _ _ ha)⟩, kidL (Q2 := fun x H' => rTupA K [x] H' Q) (walk_tup.mono (fun H' e => Evl.st_of (e _ _ (e12 _ _ ha))) fun i H v H' _ _ y => y) (by rw [← pair_len pr]; omega) hv2 fun H' Dl ys hD e hys pys => ?_⟩
          refine ⟨Dl, ys, rfl, .inl ⟨Evl.sq_of hys, fun t ht => ?_⟩⟩
          exact k _ _ (e12.trans (e.trans (Ex.new ht))) ⟨t, ys, rfl, upd_same, l5, pair_imp pys fun a b h => rp_ex (Ex.new ht) (rp_S (fun b hb => Evl.fresh_back e12 hb.1) h)⟩
        | _ => cases hb
      have e12 := e1.trans e2
      refine Evl.q_when (b := (dicG d).isSome) (Evl.et_B (Evl.ev_is (ev_isG (Evl.ev_var rfl) (rp_ex e12 hv)) (by rw [isK_dic]))) (fun hb H3 e3 => ?_) fun hb3 H3 e3 => Evl.s_ret (Evl.ev_var rfl) fun H4 e4 => leaf (e12.trans (e3.trans e4)) hb1 hb2 hb3
      cases d with
      | dic l =>
        have e13 := e12.trans e3
        obtain ⟨n', a, es, en, rfl, _, ha, l5, le, okk, ekeys, pr⟩ := rp_dic (rp_ex e13 hv)
        have en : n = n' := by omega
        subst en
        have ha3 := ha
        intro a1 h1
        have n1a : a1 ≠ a := fun e => by rw [e, ha3] at h1; cases h1
        refine for_lock (J := fun od => Itk a od es) (xs := fun _ => none) (d := a) (es := es) (by rw [upd_ne n1a.symm]; exact ha3) (fun od R r => ⟨_, rfl, a, od, rfl, .inl ⟨es, upd_same, r⟩⟩) (fun od => walk_keys) (fun od j σ' H' => ∃ (es' : List (Key × V)) (o2 : Option V), σ' = [some (.ref a), some (.ref a1), o2, none] ∧ Ex (upd H3 a (.frz od (.dK es))) H' ∧ H' a1 = some (.dK es') ∧ Paired (fun (x : KG) (e : Key × V) => e.1 = x.1 ∧ Rp H' m n (fun b => H3 b = none ∧ b ≠ a1) x.2 e.2) (l.take j) es')
          (fun od => ⟨[], _, rfl, Ex.both (Ex.new h1), by rw [upd_ne n1a]; exact upd_same, .nil⟩) (fun od j σ' H' _ ⟨_, _, _, e, _⟩ => e _ _ upd_same) (fun od j x σ' H0 H' hlt pv y => ?_) fun od σ' H' pv => ?_
        · obtain ⟨es', o2, rfl, e, h1', pes⟩ := pv
          obtain ⟨rfl, kk, vj, hkv, rfl⟩ := y
          obtain ⟨⟨nm, dj⟩, hdj, hk, hrj⟩ := pair_back pr hkv
          have hk : kk = nm := hk
          subst hk
          have hvj : valV es kk = some vj := valV_atK (by rw [ekeys]; exact okk.1) hkv
          have hrj' := rp_in ha3 e hrj
          refine ⟨_, rfl, _, rfl, a, vj, rfl, .inl ⟨es, kk, .inr ⟨od, e _ _ upd_same⟩, rfl, hvj.symm⟩, vj, m, _, dj, rfl, hrj', hm, fun H4 v4 e4 hr4 => ?_⟩
          have nv : valV es' kk = none := vK_no (by
            rw [pair_keysG pes, List.map_take]
            exact not_take okk.1 (by rw [List.getElem?_map, hdj]; rfl))
          refine ⟨_, rfl, _, rfl, a1, _, rfl, .inl ⟨es', kk, e4 _ _ h1', rfl, ?_, rfl⟩, es' ++ [(kk, v4)], _, rfl, Ex.mut (e.trans e4) (by rw [upd_ne n1a]; exact h1), by rw [upd_same, putK_new _ nv], ?_⟩
          · rw [← pair_len pes, List.length_take]; exact Evl.sz_lt (by omega)
          · rw [take_snocG hdj]
            have back : ∀ b, H' b = none → H3 b = none := fun b hb => by
              have := Evl.fresh_back e hb
              by_cases z : b = a
              · rw [z, upd_same] at this; cases this
              · rw [upd_ne z] at this; exact this
            exact pair_snoc (pair_imp pes fun a b h => ⟨h.1, rp_upd (e4 _ _ h1') (fun _ z => nomatch z) (fun b z => z.2) (rp_ex e4 h.2)⟩) ⟨rfl, rp_upd (e4 _ _ h1') (fun _ z => nomatch z) (fun b z => z.2) (rp_S (fun b hb => ⟨back b hb, fun z => by rw [z, h1'] at hb; cases hb⟩) hr4)⟩
        · obtain ⟨es', o2, rfl, e, h1', pes⟩ := pv
          rw [le, List.take_of_length_le (Nat.le_refl _)] at pes
          have eu : Ex H3 (upd H' a (.dK es)) := unlock ha3 e
          refine Evl.s_ret (Evl.ev_var rfl) fun H7 e7 => k H7 _ (e13.trans (eu.trans e7)) (rp_ex e7 ⟨a1, es', rfl, Evl.fresh_back e13 h1, by rw [upd_ne n1a]; exact h1', l5, okk, pair_imp pes fun x en h => ⟨h.1, ?_⟩⟩)
          refine rp_S (fun b hb => ⟨Evl.fresh_back e13 hb.1, hb.2⟩) (rp_upd (e _ _ upd_same) (fun _ z => nomatch z) (fun b z ez => ?_) h.2)
          rw [ez] at z
          rw [ha3] at z
          exact nomatch z.1
      | _ => cases hb
end
end Pk

namespace Pk
open PySem PySem.Spec PyProof.Rows L2 Ssb
open Evl (Ex Ev EvT EvL EvA EvU)
section
variable {P : Program} {w : World} {K : PySem.W.Frag} {mg : Str → Option Value} {base : Heap} {C_Shape C_InvalidShape C_InvalidData C_StayError : Addr}
def spSame (n : Nat) : Sp := fun vs H Q _ => ∃ (v1 v2 : V) (m : Nat) (P1 P2 : Addr → Prop) (d : G), vs = [v1, v2] ∧ Rp H m n P1 d v1 ∧ Rp H m n P2 d v2 ∧ m ≤ 90000 ∧ (∀ b, P1 b → ¬ P2 b) ∧ ∀ H', Ex H H' → Q (.bl true) H'
theorem ok__law_same (T : Txt K mg C_Shape C_InvalidShape C_InvalidData C_StayError) (R : Prg K mg C_Shape C_InvalidShape C_InvalidData C_StayError) : ∀ n, ∃ f fd, Fn P w K mg base "_law_same" (n + 1) ["_law_actual", "_law_expected"] (spSame n) f fd
  | 0 => by
    obtain ⟨f, fd, at_, F, kp⟩ := R._law_same
    refine ⟨f, fd, F.ok sc__law_same (fun vs H Q E h => ?_) (fun cdv A outer s H vs Q E hr h => ?_), at_, kp, F.binds (fun _ _ _ _ _ _ us hl => match us, hl with | [_, _], _ => rfl)⟩
    · obtain ⟨v, v2, m, P, P2, d, rfl, _⟩ := h; rfl
    · obtain ⟨v, v2, m, P, P2, d, rfl, h, _⟩ := h; exact h.elim
  | n + 1 => by
    obtain ⟨_, _, G__law_same⟩ := ok__law_same T R n
    obtain ⟨f, fd, at_, F, kp⟩ := R._law_same
    refine ⟨f, fd, F.ok sc__law_same (fun vs H Q E h => ?_) (fun cdv A outer s H vs Q E hr h => ?_), at_, kp, F.binds (fun _ _ _ _ _ _ us hl => match us, hl with | [_, _], _ => rfl)⟩
    · obtain ⟨v, v2, m, P, P2, d, rfl, _⟩ := h; rfl
    · obtain ⟨v, v2, m, PP, P2, d, rfl, hv, hv2, hm, dis, k⟩ := h
      refine ⟨_, (pss_cons (ps_if (pt_cmpR op_isN (pv 1) pe_non (nomark _)) (pss_one (ps_ret (pe_cmpR op_isN (pv 0) pe_non (nomark _)))) pss_nil)
  (pss_cons (ps_if (pt_val (pe_callB (r := rIsi K) call_isi (by rfl) T.isinstance (by decide +kernel) (pa_cons (pv 1) (pa_cons (pe_bltn (v := .ty "bool") (by rfl) T.bool boot_bool rfl) pa_nil)))) (pss_one (ps_ret (pe_and (pe_callB (r := rIsi K) call_isi (by rfl) T.isinstance (by decide +kernel) (pa_cons (pv 0) (pa_cons (pe_bltn (v := .ty "bool") (by rfl) T.bool boot_bool rfl) pa_nil))) (pe_one (pe_cmpR op_eq (pv 0) (pv 1) (nomark _)))))) pss_nil)
  (pss_cons (ps_if (pt_val (pe_callB (r := rIsi K) call_isi (by rfl) T.isinstance (by decide +kernel) (pa_cons (pv 1) (pa_cons (pe_bltn (v := .ty "int") (by rfl) T.int boot_int rfl) pa_nil)))) (pss_one (ps_ret (pe_and (pe_callB (r := rIsi K) call_isi (by rfl) T.isinstance (by decide +kernel) (pa_cons (pv 0) (pa_cons (pe_bltn (v := .ty "int") (by rfl) T.int boot_int rfl) pa_nil))) (pe_and (pe_not (pe_callB (r := rIsi K) call_isi (by rfl) T.isinstance (by decide +kernel) (pa_cons (pv 0) (pa_cons (pe_bltn (v := .ty "bool") (by rfl) T.bool boot_bool rfl) pa_nil)))) (pe_one (pe_cmpR op_eq (pv 0) (pv 1) (nomark _))))))) pss_nil)
  (pss_cons (ps_if (pt_val (pe_callB (r := rIsi K) call_isi (by rfl) T.isinstance (by decide +kernel) (pa_cons (pv 1) (pa_cons (pe_bltn (v := .ty "str") (by rfl) T.str boot_str rfl) pa_nil)))) (pss_one (ps_ret (pe_and (pe_callB (r := rIsi K) call_isi (by rfl) T.isinstance (by decide +kernel) (pa_cons (pv 0) (pa_cons (pe_bltn (v := .ty "str") (by rfl) T.str boot_str rfl) pa_nil))) (pe_one (pe_cmpR op_eq (pv 0) (pv 1) (nomark _)))))) pss_nil)
  (pss_cons (ps_if (pt_val (pe_callB (r := rIsi K) call_isi (by rfl) T.isinstance (by decide +kernel) (pa_cons (pv 1) (pa_cons (pe_bltn (v := .ty "dict") (by rfl) T.dict boot_dict rfl) pa_nil)))) (pss_cons (ps_if (PW.pt (pw_or (pt_not (pt_val (pe_callB (r := rIsi K) call_isi (by rfl) T.isinstance (by decide +kernel) (pa_cons (pv 0) (pa_cons (pe_bltn (v := .ty "dict") (by rfl) T.dict boot_dict rfl) pa_nil))))) (pw_or1 (pt_cmpR op_ne (pe_callB call_lenD (by rfl) T.len (by decide +kernel) (pa_cons (pv 0) pa_nil)) (pe_callB call_lenD (by rfl) T.len (by decide +kernel) (pa_cons (pv 1) pa_nil)) (nomark _))))) pss_never pss_nil)
  (pss_cons (ps_lock (ps_for PassesOwn.never rfl (pi_keys (pv 1)) (pg_name (i := 2) sc__law_same.nd rfl (Or.inl rfl))
    (pss_one (ps_if (PW.pt (pw_or (pt_cmp (pc_dnotin (hu_of hr) (pv 2) (pv 0))) (pw_or1 (pt_not (pt_val (pcl G__law_same hr (pa_cons (pe_dget (hu_of hr) (pv 0) (pv 2) (fun _ _ => rfl)) (pa_cons (pe_dget (hu_of hr) (pv 1) (pv 2) (fun _ _ => rfl)) pa_nil)))))))) pss_never pss_nil))))
  (pss_one (ps_ret pe_bl)))) pss_nil)
  (pss_cons (ps_if (PW.pt (pw_and (pt_val (pe_callB (r := rIsi K) call_isi (by rfl) T.isinstance (by decide +kernel) (pa_cons (pv 1) (pa_cons (pe_bltn (v := .ty "tuple") (by rfl) T.tuple boot_tuple rfl) pa_nil)))) (pw_and1 (pt_not (pt_val (pe_callB (r := rIsi K) call_isi (by rfl) T.isinstance (by decide +kernel) (pa_cons (pv 0) (pa_cons (pe_bltn (v := .ty "tuple") (by rfl) T.tuple boot_tuple rfl) pa_nil)))))))) pss_never pss_nil)
  (pss_cons (ps_if (PW.pt (pw_and (pt_val (pe_callB (r := rIsi K) call_isi (by rfl) T.isinstance (by decide +kernel) (pa_cons (pv 1) (pa_cons (pe_bltn (v := .ty "list") (by rfl) T.list boot_list rfl) pa_nil)))) (pw_and1 (pt_not (pt_val (pe_callB (r := rIsi K) call_isi (by rfl) T.isinstance (by decide +kernel) (pa_cons (pv 0) (pa_cons (pe_bltn (v := .ty "list") (by rfl) T.list boot_list rfl) pa_nil)))))))) pss_never pss_nil)
  (pss_cons (ps_if (pt_cmpR op_ne (pe_callB (r := rLenA K) call_len (by rfl) T.len (by decide +kernel) (pa_cons (pv 0) pa_nil)) (pe_callB (r := rLenA K) call_len (by rfl) T.len (by decide +kernel) (pa_cons (pv 1) pa_nil)) (nomark _)) pss_never pss_nil)
  (pss_cons (ps_for PassesOwn.never rfl (pi_range1 (by rfl) T.range (pa_cons (pe_callB (r := rLenA K) call_len (by rfl) T.len (by decide +kernel) (pa_cons (pv 1) pa_nil)) pa_nil)) (pg_name (i := 3) sc__law_same.nd rfl (Or.inl rfl))
    (pss_one (ps_if (pt_not (pt_val (pcl G__law_same hr (pa_cons (pe_ix (r := rIx K) ix_seq (pv 0) (pv 3) (fun _ _ => rfl)) (pa_cons (pe_ix (r := rIx K) ix_seq (pv 1) (pv 3) (fun _ _ => rfl)) pa_nil))))) pss_never pss_nil)))
  (pss_one (ps_ret pe_bl))))))))))), ?_⟩
      by_cases cn : d = .non
      · subst cn
        have e : v = .non := hv
        subst e
        have e : v2 = .non := hv2
        subst e
        exact Evl.q_when (b := true) (Evl.et_is (Evl.et_test (Evl.ev_op (x := V.non) (Evl.ev_var rfl) Evl.ev_c rv_isN)) (by decide)) (fun _ H1 e1 => Evl.s_ret (Evl.ev_is (Evl.ev_op (x := V.non) (Evl.ev_var rfl) Evl.ev_c rv_isN) (by decide)) fun H2 e2 => k H2 (e1.trans e2)) fun h => nomatch h
      have no : v2 ≠ .non := fun e => by
        subst e
        cases d with
        | non => exact cn rfl
        | bl b => cases (show V.non = .bl b from hv2)
        | int b => cases (show V.non = .int b from hv2)
        | str b => cases (show V.non = .str b from hv2.1)
        | lst l => obtain ⟨a, xs, e, _⟩ := hv2; cases e
        | tup l => obtain ⟨a, xs, e, _⟩ := hv2; cases e
        | dic l => obtain ⟨a, xs, e, _⟩ := hv2; cases e
      refine Evl.q_when (b := false) (Evl.et_is (Evl.et_test (Evl.ev_op (Evl.ev_var rfl) Evl.ev_c rv_isN)) (decide_eq_false no)) (fun h => nomatch h) fun _ H1 e1 => ?_
      have hw1 := rp_ex e1 hv
      have hw2 := rp_ex e1 hv2
      have seq : ∀ {Hx : Hp} {g : G}, g = d → (∃ l, itsG g = some l) → True := fun _ _ => trivial
      cases d with
      | non => exact absurd rfl cn
      | bl b =>
        have e : v = .bl b := hv
        subst e
        have e : v2 = .bl b := hv2
        subst e
        refine Evl.q_when (b := true) (Evl.et_B (ev_isC (Evl.ev_var rfl) hw2 ki_bl_bool)) (fun _ H2 e2 => ?_) (fun h => nomatch h)
        exact Evl.s_ret (Evl.ev_is (Evl.ev_andV (a := true) (b := true) (ev_isC (Evl.ev_var rfl) (rp_ex e2 hw1) ki_bl_bool) fun _ => Evl.ev_is (Evl.ev_op (Evl.ev_var rfl) (Evl.ev_var rfl) (Evl.rv_eq rfl)) (by simp)) rfl) fun H3 e3 => k H3 (e1.trans (e2.trans e3))
      | int i =>
        have e : v = .int i := hv
        subst e
        have e : v2 = .int i := hv2
        subst e
        refine Evl.q_when (b := false) (Evl.et_B (ev_isC (Evl.ev_var rfl) hw2 ki_int_bool)) (fun h => nomatch h) fun _ H2 e2 => ?_
        refine Evl.q_when (b := true) (Evl.et_B (ev_isC (Evl.ev_var rfl) (rp_ex e2 hw2) ki_int_int)) (fun _ H3 e3 => ?_) (fun h => nomatch h)
        have hx := rp_ex (e2.trans e3) hw1
        exact Evl.s_ret (Evl.ev_is (Evl.ev_andV (a := true) (b := true) (ev_isC (Evl.ev_var rfl) hx ki_int_int) fun _ => Evl.ev_is (Evl.ev_andV (a := true) (b := true) (Evl.ev_notV (a := false) (ev_isC (Evl.ev_var rfl) hx ki_int_bool)) fun _ => Evl.ev_is (Evl.ev_op (Evl.ev_var rfl) (Evl.ev_var rfl) (Evl.rv_eq rfl)) (by simp)) rfl) rfl) fun H4 e4 => k H4 (e1.trans ((e2.trans e3).trans e4))
      | str i =>
        have e : v = .str i := hv.1
        subst e
        have e : v2 = .str i := hv2.1
        subst e
        refine Evl.q_when (b := false) (Evl.et_B (ev_isC (Evl.ev_var rfl) hw2 ki_str_bool)) (fun h => nomatch h) fun _ H2 e2 => ?_
        refine Evl.q_when (b := false) (Evl.et_B (ev_isC (Evl.ev_var rfl) (rp_ex e2 hw2) ki_str_int)) (fun h => nomatch h) fun _ H3 e3 => ?_
        have e23 := e2.trans e3
        refine Evl.q_when (b := true) (Evl.et_B (ev_isC (Evl.ev_var rfl) (rp_ex e23 hw2) ki_str_str)) (fun _ H4 e4 => ?_) (fun h => nomatch h)
        exact Evl.s_ret (Evl.ev_is (Evl.ev_andV (a := true) (b := true) (ev_isC (Evl.ev_var rfl) (rp_ex (e23.trans e4) hw1) ki_str_str) fun _ => Evl.ev_is (Evl.ev_op (Evl.ev_var rfl) (Evl.ev_var rfl) (Evl.rv_eq rfl)) (by simp)) rfl) fun H5 e5 => k H5 (e1.trans ((e23.trans e4).trans e5))
      | lst l =>
        refine Evl.q_when (b := false) (Evl.et_B (ev_isC (Evl.ev_var rfl) hw2 ki_lst_bool)) (fun h => nomatch h) fun _ H2 e2 => ?_
        refine Evl.q_when (b := false) (Evl.et_B (ev_isC (Evl.ev_var rfl) (rp_ex e2 hw2) ki_lst_int)) (fun h => nomatch h) fun _ H3 e3 => ?_
        have e23 := e2.trans e3
        refine Evl.q_when (b := false) (Evl.et_B (ev_isC (Evl.ev_var rfl) (rp_ex e23 hw2) ki_lst_str)) (fun h => nomatch h) fun _ H4 e4 => ?_
        have e24 := e23.trans e4
        refine Evl.q_when (b := false) (Evl.et_B (ev_isC (Evl.ev_var rfl) (rp_ex e24 hw2) ki_lst_dict)) (fun h => nomatch h) fun _ H5 e5 => ?_
        have e25 := e24.trans e5
        refine Evl.q_when (b := false) (Evl.et_and (a := false) (b := false) (Evl.et_B (ev_isC (Evl.ev_var rfl) (rp_ex e25 hw2) ki_lst_tuple)) (fun h => nomatch h)) (fun h => nomatch h) fun _ H6 e6 => ?_
        have e26 := e25.trans e6
        refine Evl.q_when (b := false) (Evl.et_and (a := true) (b := false) (Evl.et_B (ev_isC (Evl.ev_var rfl) (rp_ex e26 hw2) ki_lst_list)) (fun _ => Evl.et_not (a := true) (Evl.et_B (ev_isC (Evl.ev_var rfl) (rp_ex e26 hw1) ki_lst_list)))) (fun h => nomatch h) fun _ H7 e7 => ?_
        have e17 := e1.trans (e26.trans e7)
        obtain ⟨k1, a, xs, ek, rfl, ha, l5, pr1⟩ := itsG_of (K := K) (g := .lst l) rfl (rp_ex e17 hv)
        have ek : n = k1 := by omega
        subst ek
        obtain ⟨k1, b, ys, ek, rfl, hb, l6, pr2⟩ := itsG_of (K := K) (g := .lst l) rfl (rp_ex e17 hv2)
        have ek : n = k1 := by omega
        subst ek
        have lx := pair_len pr1
        have ly := pair_len pr2
        refine Evl.q_when (b := false) (Evl.et_is (Evl.et_test (Evl.ev_op (ev_lenL (Evl.ev_var rfl) ha) (ev_lenL (Evl.ev_var rfl) hb) (Evl.rv_ne rfl))) (by rw [show xs.length = ys.length by omega]; simp)) (fun h => nomatch h) fun _ H8 e8 => ?_
        refine Evl.q_forR1 (n := (ys.length : Int)) (Evl.ea_cons (ev_lenL (Evl.ev_var rfl) (ex_q e8 hb)) Evl.ea_nil) ⟨by omega, by omega⟩ (fun i σ' H' => ∃ o3, σ' = [some (.ref a), some (.ref b), none, o3] ∧ Ex H7 H') (fun H9 e9 => ⟨_, rfl, e8.trans e9⟩) (fun i σ' H' hi pv => ?_) fun σ' H' pv => ?_
        · obtain ⟨o3, rfl, e⟩ := pv
          have hi : i < ys.length := by omega
          obtain ⟨x2, hx2⟩ : ∃ x, ys[i]? = some x := ⟨_, List.getElem?_eq_getElem hi⟩
          obtain ⟨x1, hx1⟩ : ∃ x, xs[i]? = some x := ⟨_, List.getElem?_eq_getElem (by omega)⟩
          obtain ⟨y1, hy1, hr1⟩ := pair_back pr1 hx1
          obtain ⟨y2, hy2, hr2⟩ := pair_back pr2 hx2
          rw [hy1] at hy2
          cases hy2
          exact Evl.s_when (b := false) (Evl.et_not (a := true) (Evl.et_B (ev_fn (Evl.ea_cons (Evl.ev_op (Evl.ev_var rfl) (Evl.ev_var rfl) (rv_ixQ (ex_q e ha) (atI_nat hx1))) (Evl.ea_cons (Evl.ev_op (Evl.ev_var rfl) (Evl.ev_var rfl) (rv_ixQ (ex_q e hb) (atI_nat hx2))) Evl.ea_nil)) fun H9 e9 Q' q' => ⟨x1, x2, m, PP, P2, y1, rfl, rp_ex (e.trans e9) hr1, rp_ex (e.trans e9) hr2, hm, dis, q'⟩))) (fun h => nomatch h) fun _ H9 e9 => ⟨_, rfl, e.trans e9⟩
        · obtain ⟨o3, rfl, e⟩ := pv
          exact Evl.s_ret Evl.ev_c fun H9 e9 => k H9 (e17.trans (e.trans e9))
      | tup l =>
        refine Evl.q_when (b := false) (Evl.et_B (ev_isC (Evl.ev_var rfl) hw2 ki_tup_bool)) (fun h => nomatch h) fun _ H2 e2 => ?_
        refine Evl.q_when (b := false) (Evl.et_B (ev_isC (Evl.ev_var rfl) (rp_ex e2 hw2) ki_tup_int)) (fun h => nomatch h) fun _ H3 e3 => ?_
        have e23 := e2.trans e3
        refine Evl.q_when (b := false) (Evl.et_B (ev_isC (Evl.ev_var rfl) (rp_ex e23 hw2) ki_tup_str)) (fun h => nomatch h) fun _ H4 e4 => ?_
        have e24 := e23.trans e4
        refine Evl.q_when (b := false) (Evl.et_B (ev_isC (Evl.ev_var rfl) (rp_ex e24 hw2) ki_tup_dict)) (fun h => nomatch h) fun _ H5 e5 => ?_
        have e25 := e24.trans e5
        refine Evl.q_when (b := false) (Evl.et_and (a := true) (b := false) (Evl.et_B (ev_isC (Evl.ev_var rfl) (rp_ex e25 hw2) ki_tup_tuple)) (fun _ => Evl.et_not (a := true) (Evl.et_B (ev_isC (Evl.ev_var rfl) (rp_ex e25 hw1) ki_tup_tuple)))) (fun h => nomatch h) fun _ H6 e6 => ?_
        have e26 := e25.trans e6
        refine Evl.q_when (b := false) (Evl.et_and (a := false) (b := false) (Evl.et_B (ev_isC (Evl.ev_var rfl) (rp_ex e26 hw2) ki_tup_list)) (fun h => nomatch h)) (fun h => nomatch h) fun _ H7 e7 => ?_
        have e17 := e1.trans (e26.trans e7)
        obtain ⟨k1, a, xs, ek, rfl, ha, l5, pr1⟩ := itsG_of (K := K) (g := .tup l) rfl (rp_ex e17 hv)
        have ek : n = k1 := by omega
        subst ek
        obtain ⟨k1, b, ys, ek, rfl, hb, l6, pr2⟩ := itsG_of (K := K) (g := .tup l) rfl (rp_ex e17 hv2)
        have ek : n = k1 := by omega
        subst ek
        have lx := pair_len pr1
        have ly := pair_len pr2
        refine Evl.q_when (b := false) (Evl.et_is (Evl.et_test (Evl.ev_op (ev_lenL (Evl.ev_var rfl) ha) (ev_lenL (Evl.ev_var rfl) hb) (Evl.rv_ne rfl))) (by rw [show xs.length = ys.length by omega]; simp)) (fun h => nomatch h) fun _ H8 e8 => ?_
        refine Evl.q_forR1 (n := (ys.length : Int)) (Evl.ea_cons (ev_lenL (Evl.ev_var rfl) (ex_q e8 hb)) Evl.ea_nil) ⟨by omega, by omega⟩ (fun i σ' H' => ∃ o3, σ' = [some (.ref a), some (.ref b), none, o3] ∧ Ex H7 H') (fun H9 e9 => ⟨_, rfl, e8.trans e9⟩) (fun i σ' H' hi pv => ?_) fun σ' H' pv => ?_
        · obtain ⟨o3, rfl, e⟩ := pv
          have hi : i < ys.length := by omega
          obtain ⟨x2, hx2⟩ : ∃ x, ys[i]? = some x := ⟨_, List.getElem?_eq_getElem hi⟩
          obtain ⟨x1, hx1⟩ : ∃ x, xs[i]? = some x := ⟨_, List.getElem?_eq_getElem (by omega)⟩
          obtain ⟨y1, hy1, hr1⟩ := pair_back pr1 hx1
          obtain ⟨y2, hy2, hr2⟩ := pair_back pr2 hx2
          rw [hy1] at hy2
          cases hy2
          exact Evl.s_when (b := false) (Evl.et_not (a := true) (Evl.et_B (ev_fn (Evl.ea_cons (Evl.ev_op (Evl.ev_var rfl) (Evl.ev_var rfl) (rv_ixQ (ex_q e ha) (atI_nat hx1))) (Evl.ea_cons (Evl.ev_op (Evl.ev_var rfl) (Evl.ev_var rfl) (rv_ixQ (ex_q e hb) (atI_nat hx2))) Evl.ea_nil)) fun H9 e9 Q' q' => ⟨x1, x2, m, PP, P2, y1, rfl, rp_ex (e.trans e9) hr1, rp_ex (e.trans e9) hr2, hm, dis, q'⟩))) (fun h => nomatch h) fun _ H9 e9 => ⟨_, rfl, e.trans e9⟩
        · obtain ⟨o3, rfl, e⟩ := pv
          exact Evl.s_ret Evl.ev_c fun H9 e9 => k H9 (e17.trans (e.trans e9))
      | dic l =>
        refine Evl.q_when (b := false) (Evl.et_B (ev_isC (Evl.ev_var rfl) hw2 ki_dic_bool)) (fun h => nomatch h) fun _ H2 e2 => ?_
        refine Evl.q_when (b := false) (Evl.et_B (ev_isC (Evl.ev_var rfl) (rp_ex e2 hw2) ki_dic_int)) (fun h => nomatch h) fun _ H3 e3 => ?_
        have e23 := e2.trans e3
        refine Evl.q_when (b := false) (Evl.et_B (ev_isC (Evl.ev_var rfl) (rp_ex e23 hw2) ki_dic_str)) (fun h => nomatch h) fun _ H4 e4 => ?_
        have e24 := e23.trans e4
        refine Evl.q_when (b := true) (Evl.et_B (ev_isC (Evl.ev_var rfl) (rp_ex e24 hw2) ki_dic_dict)) (fun _ H5 e5 => ?_) (fun h => nomatch h)
        have e15 := e1.trans (e24.trans e5)
        have hx1 := rp_ex e15 hv
        obtain ⟨k1, a, es1, ek, rfl, Pa, ha, l5, le1, ok1, ke1, pr1⟩ := rp_dic hx1
        have ek : n = k1 := by omega
        subst ek
        obtain ⟨k1, b, es2, ek, rfl, Pb, hb, l6, le2, ok2, ke2, pr2⟩ := rp_dic (rp_ex e15 hv2)
        have ek : n = k1 := by omega
        subst ek
        refine Evl.q_when (b := false) (Evl.et_or (a := false) (b := false) (Evl.et_not (a := true) (Evl.et_B (ev_isC (Evl.ev_var rfl) hx1 ki_dic_dict))) fun _ => Evl.et_is (Evl.et_test (Evl.ev_op (ev_lenK (Evl.ev_var rfl) ha) (ev_lenK (Evl.ev_var rfl) hb) (Evl.rv_ne rfl))) (by rw [show es1.length = es2.length by omega]; simp)) (fun h => nomatch h) fun _ H6 e6 => ?_
        have ha6 := e6 _ _ ha
        have hb6 := e6 _ _ hb
        have nab : a ≠ b := fun e => dis a Pa (e ▸ Pb)
        refine for_lock (J := fun od => Itk b od es2) (xs := fun _ => none) hb6 (fun od R r => ⟨_, rfl, b, od, rfl, .inl ⟨es2, upd_same, r⟩⟩) (fun od => walk_keys) (fun od j σ' H' => ∃ o2, σ' = [some (.ref a), some (.ref b), o2, none] ∧ Ex (upd H6 b (.frz od (.dK es2))) H') (fun od => ⟨_, rfl, Ex.refl _⟩) (fun od j σ' H' _ ⟨_, _, e⟩ => e _ _ upd_same) (fun od j x σ' H0 H' hlt pv y => ?_) fun od σ' H' pv => ?_
        · obtain ⟨o2, rfl, e⟩ := pv
          obtain ⟨rfl, kk, vj, hkv, rfl⟩ := y
          obtain ⟨⟨nm, dj⟩, hdj, hk, hrj⟩ := pair_back pr2 hkv
          have hk : kk = nm := hk
          subst hk
          have hvj : valV es2 kk = some vj := valV_atK (by rw [ke2]; exact ok2.1) hkv
          obtain ⟨⟨k3, vx⟩, hvx0, hk3, hrx⟩ := pair_at pr1 hdj
          have hk3 : k3 = kk := hk3
          subst hk3
          have hvx : valV es1 k3 = some vx := valV_atK (by rw [ke1]; exact ok1.1) hvx0
          have haH : H' a = some (.dK es1) := e _ _ (by rw [upd_ne nab]; exact ha6)
          have hbH : H' b = some (.frz od (.dK es2)) := e _ _ upd_same
          have hrj' := rp_in hb6 e (rp_ex e6 hrj)
          have hrx' : Rp H' m n (fun z => PP z ∧ z ≠ a) dj vx := rp_ex e (rp_lock hb6 (fun z hz ez => dis z hz.1 (ez ▸ Pb)) (rp_ex e6 hrx))
          refine Evl.s_when (b := false) (Evl.et_or (a := false) (b := false) (fun H7 e7 Q' q' => ⟨_, rfl, _, rfl, a, some vx, rfl, .inl ⟨es1, k3, .inl (e7 _ _ haH), rfl, hvx.symm⟩, _, rfl, q' H7 (Ex.refl _)⟩) fun _ => Evl.et_not (a := true) (Evl.et_B (ev_fn (z := .bl true) (fun H7 e7 Q' q' => ⟨_, rfl, _, rfl, a, vx, rfl, .inl ⟨es1, k3, .inl (e7 _ _ haH), rfl, hvx.symm⟩, _, rfl, _, rfl, b, vj, rfl, .inl ⟨es2, k3, .inr ⟨od, e7 _ _ hbH⟩, rfl, hvj.symm⟩, q' H7 (Ex.refl _)⟩) fun H7 e7 Q' q' => ⟨vx, vj, m, _, _, dj, rfl, rp_ex e7 hrx', rp_ex e7 hrj', hm, fun z h1 h2 => dis z h1.1 h2.1, q'⟩))) (fun h => nomatch h) fun _ H7 e7 => ⟨_, rfl, e.trans e7⟩
        · obtain ⟨o2, rfl, e⟩ := pv
          exact k _ (e15.trans (e6.trans (unlock hb6 e)))
end
end Pk

namespace Pk
open PySem PySem.Spec PyProof.Rows L2 Ssb
open Evl (Ex Ev EvT EvL EvA EvU)
theorem cut_to {xs : List V} {i : Nat} : cutV xs none (some (i : Int)) = xs.take i := by
  unfold cutV
  rw [HT.sIx_none, HT.sIx_nat, List.drop_zero, Nat.sub_zero]
  exact List.take_eq_take_iff.mpr (by omega)
theorem cut_part {xs : List V} {i : Nat} (h : i < xs.length) : ¬ (HT.sIx xs.length 0 none = 0 ∧ HT.sIx xs.length xs.length (some (i : Int)) = xs.length) := fun z => by
  have := z.2
  rw [HT.sIx_nat] at this
  omega
theorem filt_all {α : Type} {g : α → Bool} : ∀ {l : List α}, decide ((l.filter g).length = l.length) = l.all g
  | [] => rfl
  | a :: l => by
    have := List.length_filter_le g l
    cases c : g a with
    | true =>
      rw [List.filter_cons_of_pos c, List.all_cons, c, Bool.true_and, ← filt_all (l := l)]
      simp
    | false =>
      rw [List.filter_cons_of_neg (by rw [c]; exact fun h => nomatch h), List.all_cons, c, Bool.false_and]
      exact decide_eq_false (by rw [List.length_cons]; omega)
def lowV : V → Bool
  | .str s => (match s.cps.toList with | [c] => decide (97 ≤ c) && decide (c ≤ 122) | _ => false)
  | _ => false
theorem ev_lenE {K : PySem.W.Frag} {σ : L2.St} {H : Hp} {te : TE} {xs : List V} (h : EvL te σ H xs) : Ev (tCB (rLenA K) (tCons te tNil)) σ H (.int (xs.length : Int)) := fun H1 e Q q =>
  h H1 e _ fun p H2 _ e2 h2 => ⟨.ref p, xs.length, rfl, .inl ⟨xs, Evl.sq_of h2, rfl⟩, q H2 e2⟩
theorem rp_sz {H : Hp} {m n : Nat} {S : Addr → Prop} {x : Str} {v : V} (h : Rp H m n S (.str x) v) : v = .str x ∧ x.length ≤ m := by
  obtain ⟨n, rfl⟩ := rp_pos h
  exact h
section
variable {P : Program} {w : World} {K : PySem.W.Frag} {mg : Str → Option Value} {base : Heap} {C_Shape C_InvalidShape C_InvalidData C_StayError : Addr}
def preLWd : List V → Hp → Bool → Prop := fun vs H b => ∃ (v : V) (m n : Nat) (S : Addr → Prop) (g : G), vs = [v] ∧ Rp H m n S g v ∧ m ≤ 40000 ∧ b = wdG g
theorem ok__law_is_word (T : Txt K mg C_Shape C_InvalidShape C_InvalidData C_StayError) (R : Prg K mg C_Shape C_InvalidShape C_InvalidData C_StayError) : ∃ f fd, Fn P w K mg base "_law_is_word" 1 ["_law_value"] (spB preLWd) f fd := by
  obtain ⟨f, fd, at_, F, kp⟩ := R._law_is_word
  refine ⟨f, fd, F.ok sc__law_is_word (fun vs H Q E h => ?_) (fun cdv A outer s H vs Q E hr h => ?_), at_, kp, F.binds (fun _ _ _ _ _ _ us hl => match us, hl with | [_], _ => rfl)⟩
  · obtain ⟨b, ⟨v, m, n, S, g, rfl, _⟩, _⟩ := h; rfl
  · obtain ⟨b, ⟨v, m, n, S, g, rfl, hg, hm, rfl⟩, k⟩ := h
    refine ⟨_, (pss_cons (ps_if (PW.pt (pw_or (pt_not (pt_val (pe_callB (r := rIsi K) call_isi (by rfl) T.isinstance (by decide +kernel) (pa_cons (pv 0) (pa_cons (pe_bltn (v := .ty "str") (by rfl) T.str boot_str rfl) pa_nil))))) (pw_or (pt_cmpR op_lt (pe_callB (r := rLenA K) call_len (by rfl) T.len (by decide +kernel) (pa_cons (pv 0) pa_nil)) pe_int (nomark _)) (pw_or1 (pt_cmpR op_gt (pe_callB (r := rLenA K) call_len (by rfl) T.len (by decide +kernel) (pa_cons (pv 0) pa_nil)) pe_int (nomark _)))))) (pss_one (ps_ret pe_bl)) pss_nil)
  (pss_one (ps_ret (pe_cmpR op_eq (pe_callB (r := rLenA K) call_len (by rfl) T.len (by decide +kernel) (pa_cons (pe_lc (own := [("_law_sign", 1)]) rfl sc__law_is_word.nd (pi_str (pv 0)) (blkOk_by (own := [("_law_sign", 1)]) (N := ["_law_value", "_law_sign"]) (sc := defScope s__law_is_word) (by decide +kernel)) (fun _ _ _ _ _ => (pg_name (i := 1) sc__law_is_word.nd rfl (Or.inl rfl))) (fun _ _ _ _ _ => (pts_one (pt_chain op_le_str op_le_str pe_str (pv 1) pe_str))) (fun _ _ _ _ _ => (pv 1))) pa_nil)) (pe_callB (r := rLenA K) call_len (by rfl) T.len (by decide +kernel) (pa_cons (pv 0) pa_nil)) (nomark _))))), ?_⟩
    cases cs : isStrG g with
    | false =>
      have nW : wdG g = false := by cases g <;> first | rfl | cases cs
      rw [nW] at k
      exact Evl.q_when (b := true) (Evl.et_or (a := true) (b := false) (Evl.et_is (Evl.et_not (Evl.et_B (ev_isC (Evl.ev_var rfl) hg ((isK_str g).trans cs)))) rfl) fun h => nomatch h) (fun _ H1 e1 => Evl.s_ret Evl.ev_c fun H2 e2 => k H2 (e1.trans e2)) fun h => nomatch h
    | true =>
      obtain ⟨x, rfl⟩ : ∃ x, g = .str x := by
        cases g with
        | str x => exact ⟨x, rfl⟩
        | _ => cases cs
      obtain ⟨rfl, hx⟩ := rp_sz hg
      have lx : x.length ≤ 40000 := by omega
      have lx1 : x.length ≤ 100000 := by omega
      have e1 : decide ((x.length : Int) < 1) = !decide (1 ≤ x.length) := by
        by_cases h : 1 ≤ x.length
        · rw [decide_eq_true h, decide_eq_false (by omega)]; rfl
        · rw [decide_eq_false h, decide_eq_true (by omega)]; rfl
      have e2 : decide ((x.length : Int) > 8) = !decide (x.length ≤ 8) := by
        by_cases h : x.length ≤ 8
        · rw [decide_eq_true h, decide_eq_false (by omega)]; rfl
        · rw [decide_eq_false h, decide_eq_true (by omega)]; rfl
      refine Evl.q_when (b := false || (!decide (1 ≤ x.length) || !decide (x.length ≤ 8))) (Evl.et_or (Evl.et_not (a := true) (Evl.et_B (ev_isC (Evl.ev_var rfl) hg ki_str_str))) fun _ => Evl.et_or (Evl.et_test (Evl.ev_is (Evl.ev_op (ev_lenS (Evl.ev_var rfl) lx1) Evl.ev_c Evl.rv_I0) (by rw [e1]))) fun _ => Evl.et_test (Evl.ev_is (Evl.ev_op (ev_lenS (Evl.ev_var rfl) lx1) Evl.ev_c Evl.rv_I0) (by rw [e2]))) (fun hb H1 e1 => ?_) fun hb H1 e1 => ?_
      · refine Evl.s_ret (v := .bl (wdS x)) (Evl.ev_is Evl.ev_c ?_) fun H2 e2 => k H2 (e1.trans e2)
        have : (decide (1 ≤ x.length) && decide (x.length ≤ 8)) = false := by
          cases c1 : decide (1 ≤ x.length) with
          | false => rfl
          | true =>
            cases c2 : decide (x.length ≤ 8) with
            | false => rfl
            | true => rw [c1, c2] at hb; cases hb
        unfold wdS; rw [this]; rfl
      · have : (decide (1 ≤ x.length) && decide (x.length ≤ 8)) = true := by
          cases c1 : decide (1 ≤ x.length) with
          | false => rw [c1] at hb; cases hb
          | true =>
            cases c2 : decide (x.length ≤ 8) with
            | true => rfl
            | false => rw [c1, c2] at hb; cases hb
        have ew : wdS x = x.cps.toList.all fun c => decide (97 ≤ c) && decide (c ≤ 122) := by unfold wdS; rw [this]; rfl
        refine Evl.s_ret (v := .bl (wdS x)) (Evl.ev_is (Evl.ev_op (ev_lenE (el_lcSF (g := lowV) (Evl.ev_var rfl) lx (fun _ => rfl) (fun y H2 e2 hy => ?_) (fun y H2 e2 hy => Evl.ev_var rfl))) (ev_lenS (Evl.ev_var rfl) lx1) (Evl.rv_eq rfl)) ?_) fun H2 e2 => k H2 (e1.trans e2)
        · obtain ⟨c, _, rfl⟩ := List.mem_map.mp hy
          refine Evl.et_test (Evl.ev_is (ev_chain (b1 := decide (97 ≤ c)) (b2 := decide (c ≤ 122)) Evl.ev_c (Evl.ev_var rfl) Evl.ev_c ?_ ?_) rfl)
          · exact fun H1 _ Q q => ⟨_, _, rfl, rfl, by rw [show (!decide ((⟨#[c]⟩ : Str).cps.toList < ("a" : Str).cps.toList)) = decide (97 ≤ c) from le_dec]; exact q H1 (Ex.refl _)⟩
          · exact fun H1 _ Q q => ⟨_, _, rfl, rfl, by rw [show (!decide (("z" : Str).cps.toList < (⟨#[c]⟩ : Str).cps.toList)) = decide (c ≤ 122) from le_dec]; exact q H1 (Ex.refl _)⟩
        · rw [ew]
          congr 1
          have l1 : x.length = (chrs x).length := by simp [chrs, Str.length]
          have l2 : decide (V.int (((chrs x).filter lowV).length : Int) = V.int (x.length : Int)) = decide (((chrs x).filter lowV).length = (chrs x).length) := by
            rw [l1]; congr 1
            exact propext ⟨fun h => by have := V.int.inj h; omega, fun h => by rw [h]⟩
          rw [l2, filt_all]
          unfold chrs
          rw [List.all_map]; rfl
end
end Pk

namespace Pk
open PySem PySem.Spec PyProof.Rows L2 Ssb
open Evl (Ex Ev EvT EvL EvA EvU)
theorem lenI_lt {n : Nat} {a : Int} : decide ((n : Int) < a) = !decide (a ≤ (n : Int)) := by
  by_cases h : a ≤ (n : Int)
  · rw [decide_eq_true h, decide_eq_false (by omega)]; rfl
  · rw [decide_eq_false h, decide_eq_true (by omega)]; rfl
theorem lenI_gt {n : Nat} {a : Int} : decide ((n : Int) > a) = !decide ((n : Int) ≤ a) := by
  by_cases h : (n : Int) ≤ a
  · rw [decide_eq_true h, decide_eq_false (by omega)]; rfl
  · rw [decide_eq_false h, decide_eq_true (by omega)]; rfl
theorem strs_words {ws : List Str} : strsG (ws.map .str) = ws := by
  unfold strsG
  induction ws with
  | nil => rfl
  | cons y ws ih => rw [List.map_cons, List.filterMap_cons]; show y :: _ = _; rw [ih]
theorem words_xs {H : Hp} {m n : Nat} {S : Addr → Prop} : ∀ {ws : List Str} {xs : List V}, Paired (fun d x => Rp H m n S d x) (ws.map .str) xs → xs = ws.map V.str
  | [], _, .nil => rfl
  | y :: ws, _, .cons h t => by rw [words_xs t, (rp_sz h).1]; rfl
theorem pair_take {α β : Type} {F : α → β → Prop} : ∀ {l : List α} {m : List β} (j : Nat), Paired F l m → Paired F (l.take j) (m.take j)
  | _, _, 0, _ => by rw [List.take_zero, List.take_zero]; exact .nil
  | _, _, j + 1, .nil => .nil
  | _, _, j + 1, .cons h t => .cons h (pair_take j t)
/-- a word comes twice, or no word at all: no words -/
theorem words_no {l : List G} {lo hi : Int} (h : l.all wdG = true → ¬ (strsG l).Nodup) : wordsL l lo hi = false := by
  unfold wordsL
  cases c : l.all wdG with
  | false => simp
  | true => rw [decide_eq_false (h c)]; simp
section
variable {P : Program} {w : World} {K : PySem.W.Frag} {mg : Str → Option Value} {base : Heap} {C_Shape C_InvalidShape C_InvalidData C_StayError : Addr}
def preLWs : List V → Hp → Bool → Prop := fun vs H b => ∃ (v : V) (m n : Nat) (S : Addr → Prop) (g : G) (lo hi : Int), vs = [v, .int lo, .int hi] ∧ Rp H m n S g v ∧ m ≤ 40000 ∧ b = wordsG g lo hi
theorem ok__law_are_words (T : Txt K mg C_Shape C_InvalidShape C_InvalidData C_StayError) (R : Prg K mg C_Shape C_InvalidShape C_InvalidData C_StayError) : ∃ f fd, Fn P w K mg base "_law_are_words" 2 ["_law_value", "_law_least", "_law_most"] (spB preLWs) f fd := by
  obtain ⟨_, _, G__law_is_word⟩ := ok__law_is_word (P := P) (w := w) (base := base) T R
  obtain ⟨f, fd, at_, F, kp⟩ := R._law_are_words
  refine ⟨f, fd, F.ok sc__law_are_words (fun vs H Q E h => ?_) (fun cdv A outer s H vs Q E hr h => ?_), at_, kp, F.binds (fun _ _ _ _ _ _ us hl => match us, hl with | [_, _, _], _ => rfl)⟩
  · obtain ⟨b, ⟨v, m, n, S, g, lo, hi, rfl, _⟩, _⟩ := h; rfl
  · obtain ⟨b, ⟨v, m, n, S, g, lo, hi, rfl, hg, hm, rfl⟩, k⟩ := h
    refine ⟨_, (pss_cons (ps_if (PW.pt (pw_or (pt_not (pt_val (pe_callB (r := rIsiT K) call_isiT (by rfl) T.isinstance (by decide +kernel) (pa_cons (pv 0) (pa_cons (pe_tup (pa_cons (pe_bltn (v := .ty "list") (by rfl) T.list boot_list rfl) (pa_cons (pe_bltn (v := .ty "tuple") (by rfl) T.tuple boot_tuple rfl) pa_nil))) pa_nil))))) (pw_or (pt_cmpR op_lt (pe_callB (r := rLenA K) call_len (by rfl) T.len (by decide +kernel) (pa_cons (pv 0) pa_nil)) (pv 1) (nomark _)) (pw_or1 (pt_cmpR op_gt (pe_callB (r := rLenA K) call_len (by rfl) T.len (by decide +kernel) (pa_cons (pv 0) pa_nil)) (pv 2) (nomark _)))))) (pss_one (ps_ret pe_bl)) pss_nil)
  (pss_cons (ps_for PassesOwn.never rfl (pi_range1 (by rfl) T.range (pa_cons (pe_callB (r := rLenA K) call_len (by rfl) T.len (by decide +kernel) (pa_cons (pv 0) pa_nil)) pa_nil)) (pg_name (i := 3) sc__law_are_words.nd rfl (Or.inl rfl))
    (pss_one (ps_if (PW.pt (pw_or (pt_not (pt_val (pcl G__law_is_word hr (pa_cons (pe_ix (r := rIx K) ix_seq (pv 0) (pv 3) (fun _ _ => rfl)) pa_nil)))) (pw_or1 (pt_cmpR (r := rIn K false) op_in_seq (pe_ix (r := rIx K) ix_seq (pv 0) (pv 3) (fun _ _ => rfl)) (pe_slice (sl_list.or sl_tup) (pv 0) po_none (po_some (pv 3))) (by rfl))))) (pss_one (ps_ret pe_bl)) pss_nil)))
  (pss_one (ps_ret pe_bl)))), ?_⟩
    cases hi0 : itsG g with
    | none =>
      have ew : wordsG g lo hi = false := by unfold wordsG; rw [hi0]; rfl
      rw [ew] at k
      have kb : (isLstG g || isTupG g) = false := by cases g <;> first | rfl | cases hi0
      exact Evl.q_when (b := true) (Evl.et_or (a := true) (b := false) (Evl.et_is (Evl.et_not (Evl.et_B (ev_isi2 (Evl.ev_var rfl) (fun H1 e1 => .base (rp_ty (rp_ex e1 hg))) (kit_seq g)))) (by rw [kb]; rfl)) fun h => nomatch h) (fun _ H1 e1 => Evl.s_ret Evl.ev_c fun H2 e2 => k H2 (e1.trans e2)) fun h => nomatch h
    | some l =>
      have kb : (isLstG g || isTupG g) = true := by cases g <;> first | rfl | cases hi0
      have ew : wordsG g lo hi = wordsL l lo hi := by unfold wordsG; rw [hi0]; rfl
      rw [ew] at k
      obtain ⟨n, a, xs, rfl, rfl, hx, hl, pr⟩ := itsG_of (K := K) hi0 hg
      have lx := pair_len pr
      refine Evl.q_when (b := false || (!decide (lo ≤ (l.length : Int)) || !decide ((l.length : Int) ≤ hi))) (Evl.et_or (Evl.et_is (Evl.et_not (Evl.et_B (ev_isi2 (Evl.ev_var rfl) (fun H1 e1 => .base (rp_ty (rp_ex e1 hg))) (kit_seq g)))) (by rw [kb]; rfl)) fun _ => Evl.et_or (Evl.et_test (Evl.ev_is (Evl.ev_op (ev_lenL (Evl.ev_var rfl) hx) (Evl.ev_var rfl) Evl.rv_I0) (by rw [← lx, lenI_lt]))) fun _ => Evl.et_test (Evl.ev_is (Evl.ev_op (ev_lenL (Evl.ev_var rfl) hx) (Evl.ev_var rfl) Evl.rv_I0) (by rw [← lx, lenI_gt]))) (fun hb H1 e1 => ?_) fun hb H1 e1 => ?_
      · refine Evl.s_ret (v := .bl (wordsL l lo hi)) (Evl.ev_is Evl.ev_c ?_) fun H2 e2 => k H2 (e1.trans e2)
        have : (decide (lo ≤ (l.length : Int)) && decide ((l.length : Int) ≤ hi)) = false := by
          cases c1 : decide (lo ≤ (l.length : Int)) with
          | false => rfl
          | true =>
            cases c2 : decide ((l.length : Int) ≤ hi) with
            | false => rfl
            | true => rw [c1, c2] at hb; cases hb
        unfold wordsL; rw [this]; rfl
      · have cb : (decide (lo ≤ (l.length : Int)) && decide ((l.length : Int) ≤ hi)) = true := by
          cases c1 : decide (lo ≤ (l.length : Int)) with
          | false => rw [c1] at hb; cases hb
          | true =>
            cases c2 : decide ((l.length : Int) ≤ hi) with
            | true => rfl
            | false => rw [c1, c2] at hb; cases hb
        refine Evl.q_forR1 (n := (xs.length : Int)) (Evl.ea_cons (ev_lenL (Evl.ev_var rfl) (ex_q e1 hx)) Evl.ea_nil) ⟨by omega, by omega⟩ (fun j σ' H' => ∃ o3, σ' = [some (.ref a), some (.int lo), some (.int hi), o3] ∧ Ex H H' ∧ ∃ ws : List Str, l.take j = ws.map .str ∧ ws.Nodup ∧ ∀ w ∈ ws, wdS w = true) (fun H2 e2 => ⟨_, rfl, e1.trans e2, [], rfl, List.nodup_nil, fun w h => nomatch h⟩) (fun j σ' H' hj pv => ?_) fun σ' H' pv => ?_
        · obtain ⟨o3, rfl, e, ws, hws, wnd, wwd⟩ := pv
          have hj : j < xs.length := by omega
          obtain ⟨x, hxj⟩ : ∃ x, xs[j]? = some x := ⟨_, List.getElem?_eq_getElem hj⟩
          obtain ⟨d, hd, hrd⟩ := pair_back pr hxj
          have ixE : ∀ {Hx : Hp}, Ex H Hx → Ev (tOp (rIx K) (tVar 0) (tVar 3)) [some (.ref a), some (.int lo), some (.int hi), some (.int j)] Hx x := fun ex => Evl.ev_op (Evl.ev_var rfl) (Evl.ev_var rfl) (rv_ixQ (ex_q ex hx) (atI_nat hxj))
          have xt : xs.take j = ws.map V.str := words_xs (hws ▸ pair_take j pr)
          have sl : Ev (tOp (rIn K false) (tOp (rIx K) (tVar 0) (tVar 3)) (tSl (fun x lo hi H Q => rSlL K x lo hi H Q ∨ rSlT K x lo hi H Q) (tVar 0) tNoPart (tPart (tVar 3)))) [some (.ref a), some (.int lo), some (.int hi), some (.int j)] H' (.bl (inV x (ws.map V.str))) ∨ flatV x = false := by
            cases hf : flatV x with
            | false => exact .inr rfl
            | true =>
              refine .inl ?_
              rcases hx with hx | hx
              · refine Evl.ev_opL (xs := ws.map V.str) (ixE e) (fun H2 e2 Q' q' => ?_) fun p H2 hp e2 => Evl.rv_isL (Evl.sq_of hp) hf (flat_strs ws)
                refine ⟨_, rfl, _, rfl, _, rfl, .inl ⟨a, xs, rfl, Evl.ex_l (e.trans e2) hx, fun p hp => q' p _ hp (Ex.new hp) ?_⟩⟩
                rw [upd_same, cut_to, xt]
              · refine Evl.ev_opU (xs := ws.map V.str) (ixE e) (fun H2 e2 Q' q' => ?_) fun p H2 hp e2 => Evl.rv_isT (Evl.st_of hp) hf (flat_strs ws)
                refine ⟨_, rfl, _, rfl, _, rfl, .inr ⟨a, xs, rfl, Evl.ex_t (e.trans e2) hx, cut_part hj, fun p hp => q' p _ hp (Ex.new hp) ?_⟩⟩
                rw [upd_same, cut_to, xt]
          cases hwd : wdG d with
          | false =>
            refine Evl.s_when (b := true) (Evl.et_or (a := true) (b := false) (Evl.et_is (Evl.et_not (Evl.et_B (spB_ev (b := wdG d) (fun H2 e2 Q' q' => (ixE e H2 e2 _ fun H3 e3 => q' H3 e3)) fun H2 e2 => ⟨x, m, n, S, d, rfl, rp_ex (e.trans e2) hrd, hm, rfl⟩))) (by rw [hwd]; rfl)) fun h => nomatch h) (fun _ H2 e2 => Evl.s_ret (v := .bl (wordsL l lo hi)) (Evl.ev_is Evl.ev_c ?_) fun H3 e3 => k H3 (e.trans (e2.trans e3))) fun h => nomatch h
            rw [words_no fun hall => absurd (List.all_eq_true.mp hall d (List.mem_of_getElem? hd)) (by rw [hwd]; exact fun h => nomatch h)]
          | true =>
            obtain ⟨y, rfl⟩ : ∃ y, d = .str y := by
              cases d with
              | str y => exact ⟨y, rfl⟩
              | _ => cases hwd
            obtain ⟨rfl, _⟩ := rp_sz hrd
            have sl := sl.resolve_right (fun h => nomatch h)
            refine Evl.s_when (b := false || inV (.str y) (ws.map V.str)) (Evl.et_or (Evl.et_is (Evl.et_not (Evl.et_B (spB_ev (b := wdG (.str y)) (fun H2 e2 Q' q' => (ixE e H2 e2 _ fun H3 e3 => q' H3 e3)) fun H2 e2 => ⟨_, m, n, S, .str y, rfl, rp_ex (e.trans e2) hrd, hm, rfl⟩))) (by rw [hwd]; rfl)) fun _ => Evl.et_test sl) (fun hb2 H2 e2 => Evl.s_ret (v := .bl (wordsL l lo hi)) (Evl.ev_is Evl.ev_c ?_) fun H3 e3 => k H3 (e.trans (e2.trans e3))) fun hb2 H2 e2 => ⟨_, rfl, e.trans e2, ws ++ [y], by rw [take_snocG hd, hws, List.map_append]; rfl, ?_, fun w hw => ?_⟩
            · have hy : y ∈ ws := inV_strs.mp (by simpa using hb2)
              rw [words_no fun hall => ?_]
              have el := words_strs hall
              generalize strsG l = us at el
              subst el
              intro nd
              have h1 : us.take j = ws := by
                rw [← List.map_take] at hws
                have := congrArg strsG hws
                rw [strs_words, strs_words] at this
                exact this
              have h2 : us[j]? = some y := by
                rw [List.getElem?_map] at hd
                cases hu : us[j]? with
                | none => rw [hu] at hd; cases hd
                | some u => rw [hu] at hd; cases hd; rfl
              exact not_take nd h2 (h1 ▸ hy)
            · have hy : y ∉ ws := fun hm => by
                rw [inV_strs.mpr hm] at hb2; cases hb2
              refine List.nodup_append.mpr ⟨wnd, by simp, fun a ha b hb => ?_⟩
              rw [List.mem_singleton.mp hb]
              intro e
              exact hy (by rw [← e]; exact ha)
            · rcases List.mem_append.mp hw with hw | hw
              · exact wwd w hw
              · rw [List.mem_singleton.mp hw]; exact hwd
        · obtain ⟨o3, rfl, e, ws, hws, wnd, wwd⟩ := pv
          rw [List.take_of_length_le (l := l) (by omega)] at hws
          refine Evl.s_ret (v := .bl (wordsL l lo hi)) (Evl.ev_is Evl.ev_c ?_) fun H3 e3 => k H3 (e.trans e3)
          have c2 : l.all wdG = true := by
            rw [hws, List.all_eq_true]
            intro d hd
            obtain ⟨w, hw, rfl⟩ := List.mem_map.mp hd
            exact wwd w hw
          unfold wordsL
          rw [cb, c2, hws, strs_words, decide_eq_true wnd]; rfl
end
end Pk

namespace Pk
open PySem PySem.Spec PyProof.Rows L2 Ssb
open Evl (Ex Ev EvT EvL EvA EvU)
theorem named_no {g : G} {mo : Int} (h : ∀ l, dicG g = some l → (l.length : Int) ≤ mo → ∃ p ∈ l, wdK p.1 = false) : named g mo = false := by
  unfold named
  cases hd : dicG g with
  | none => rfl
  | some l =>
    show (decide ((l.length : Int) ≤ mo) && l.all fun p => wdK p.1) = false
    by_cases c : (l.length : Int) ≤ mo
    · obtain ⟨p, hp, h2⟩ := h l hd c
      rw [all_no hp h2, Bool.and_false]
    · rw [decide_eq_false c]; rfl
theorem dicG_of {g : G} {l : List KG} (h : dicG g = some l) : g = .dic l := by
  cases g with
  | dic l' => cases h; rfl
  | _ => cases h
theorem named_lt {g : G} {mo : Int} (h : named g mo = true) {l : List KG} (hd : dicG g = some l) : (l.length : Int) ≤ mo := by
  obtain ⟨l', e, hl, _⟩ := named_at h
  subst e; cases hd; exact hl
theorem all_and (l : List KG) : ((l.all fun p => wdK p.1) && l.all fun p => fieldG p.2) = l.all fun p => wdK p.1 && fieldG p.2 := by
  induction l with
  | nil => rfl
  | cons p l ih =>
    simp only [List.all_cons]
    rw [← ih]
    cases wdK p.1 <;> cases fieldG p.2 <;> cases (l.all fun p => wdK p.1) <;> cases (l.all fun p => fieldG p.2) <;> rfl
section
variable {P : Program} {w : World} {K : PySem.W.Frag} {mg : Str → Option Value} {base : Heap} {C_Shape C_InvalidShape C_InvalidData C_StayError : Addr}
def preLFf : List V → Hp → Bool → Prop := fun vs H b => ∃ (v : V) (m n : Nat) (S : Addr → Prop) (g : G), vs = [v] ∧ Rp H m n S g v ∧ m ≤ 40000 ∧ b = fieldsG g
theorem ok__law_fields_fit (T : Txt K mg C_Shape C_InvalidShape C_InvalidData C_StayError) (R : Prg K mg C_Shape C_InvalidShape C_InvalidData C_StayError) : ∃ f fd, Fn P w K mg base "_law_fields_fit" 3 ["_law_fields_here"] (spB preLFf) f fd := by
  obtain ⟨_, _, G__law_is_word⟩ := ok__law_is_word (P := P) (w := w) (base := base) T R
  obtain ⟨_, _, G__law_are_words⟩ := ok__law_are_words (P := P) (w := w) (base := base) T R
  obtain ⟨f, fd, at_, F, kp⟩ := R._law_fields_fit
  refine ⟨f, fd, F.ok sc__law_fields_fit (fun vs H Q E h => ?_) (fun cdv A outer s H vs Q E hr h => ?_), at_, kp, F.binds (fun _ _ _ _ _ _ us hl => match us, hl with | [_], _ => rfl)⟩
  · obtain ⟨b, ⟨v, m, n, S, g, rfl, _⟩, _⟩ := h; rfl
  · obtain ⟨b, ⟨v, m, n, S, g, rfl, hg, hm, rfl⟩, k⟩ := h
    refine ⟨_, (pss_cons (ps_if (PW.pt (pw_or (pt_not (pt_val (pe_callB (r := rIsi K) call_isi (by rfl) T.isinstance (by decide +kernel) (pa_cons (pv 0) (pa_cons (pe_bltn (v := .ty "dict") (by rfl) T.dict boot_dict rfl) pa_nil))))) (pw_or1 (pt_cmpR op_gt (pe_callB call_lenD (by rfl) T.len (by decide +kernel) (pa_cons (pv 0) pa_nil)) pe_int (nomark _))))) (pss_one (ps_ret pe_bl)) pss_nil)
  (pss_cons (ps_lock (ps_for PassesOwn.never rfl (pi_keys (pv 0)) (pg_name (i := 1) sc__law_fields_fit.nd rfl (Or.inl rfl))
    (pss_cons (ps_if (PW.pt (pw_or (pt_not (pt_val (pcl G__law_is_word hr (pa_cons (pv 1) pa_nil)))) (pw_or1 (pt_not (pt_val (pe_callB (r := rIsi K) call_isi (by rfl) T.isinstance (by decide +kernel) (pa_cons (pe_dget (hu_of hr) (pv 0) (pv 1) (fun _ _ => rfl)) (pa_cons (pe_bltn (v := .ty "tuple") (by rfl) T.tuple boot_tuple rfl) pa_nil)))))))) (pss_one (ps_ret pe_bl)) pss_nil)
  (pss_one (ps_if (pt_not (pt_val (pcl G__law_are_words hr (pa_cons (pe_dget (hu_of hr) (pv 0) (pv 1) (fun _ _ => rfl)) (pa_cons pe_int (pa_cons pe_int pa_nil)))))) (pss_one (ps_ret pe_bl)) pss_nil)))))
  (pss_one (ps_ret pe_bl)))), ?_⟩
    cases hd : dicG g with
    | none =>
      have : fieldsG g = false := by
        unfold fieldsG; rw [named_no fun l h => by rw [hd] at h; cases h]; rfl
      rw [this] at k
      exact Evl.q_when (b := true) (Evl.et_or (a := true) (b := false) (Evl.et_is (Evl.et_not (Evl.et_B (ev_isC (Evl.ev_var rfl) hg ((isK_dic g).trans (by rw [hd]))))) rfl) fun h => nomatch h) (fun _ H1 e1 => Evl.s_ret Evl.ev_c fun H2 e2 => k H2 (e1.trans e2)) fun h => nomatch h
    | some l =>
      have eg := dicG_of hd
      subst eg
      obtain ⟨n, d, es, rfl, rfl, _, hda, hl, le, okk, ekk, pr⟩ := rp_dic hg
      refine Evl.q_when (b := false || !decide ((l.length : Int) ≤ 2)) (Evl.et_or (Evl.et_not (a := true) (Evl.et_B (ev_isC (Evl.ev_var rfl) hg ki_dic_dict))) fun _ => Evl.et_test (Evl.ev_is (Evl.ev_op (ev_lenK (Evl.ev_var rfl) hda) Evl.ev_c Evl.rv_I0) (by rw [le, lenI_gt]))) (fun hb H1 e1 => ?_) fun hb H1 e1 => ?_
      · have hb : ¬ (l.length : Int) ≤ 2 := by simpa using hb
        have : fieldsG (.dic l) = false := by
          unfold fieldsG; rw [named_no fun l' h h2 => by cases h; exact absurd h2 hb]; rfl
        rw [this] at k
        exact Evl.s_ret Evl.ev_c fun H2 e2 => k H2 (e1.trans e2)
      · have hb : (l.length : Int) ≤ 2 := by simpa using hb
        have hd1 := e1 _ _ hda
        have ef : fieldsG (.dic l) = l.all fun p => wdK p.1 && fieldG p.2 := by
          show ((decide ((l.length : Int) ≤ 2) && l.all fun p => wdK p.1) && l.all fun p => fieldG p.2) = _
          rw [decide_eq_true hb, Bool.true_and]
          exact all_and l
        rw [ef] at k
        refine for_lock (J := fun od => Itk d od es) (xs := fun _ => none) hd1 (fun od R r => ⟨_, rfl, d, od, rfl, .inl ⟨es, upd_same, r⟩⟩) (fun od => walk_keys) (fun od j σ' H' => ∃ (o1 : Option V), σ' = [some (.ref d), o1] ∧ Ex (upd H1 d (.frz od (.dK es))) H' ∧ ∀ p ∈ l.take j, (wdK p.1 && fieldG p.2) = true)
          (fun od => ⟨_, rfl, Ex.refl _, fun p hp => by simp at hp⟩) (fun od j σ' H' _ ⟨_, _, e, _⟩ => e _ _ upd_same) (fun od j x σ' H0 H' hlt pv y => ?_) fun od σ' H' pv => ?_
        · obtain ⟨o1, rfl, e, hdone⟩ := pv
          obtain ⟨rfl, kk, vj, hkv, rfl⟩ := y
          obtain ⟨p, hp, hk, hr2⟩ := pair_back pr hkv
          have hk : kk = p.1 := hk
          subst hk
          have pm := List.mem_of_getElem? hp
          have hvj : valV es p.1 = some vj := valV_atK (by rw [ekk]; exact okk.1) hkv
          have hr3 := rp_in hd1 e (rp_ex e1 hr2)
          have hdl : H' d = some (.frz od (.dK es)) := e _ _ upd_same
          have gt : ∀ {Hx : Hp}, Ex H' Hx → Ev (tDGet (tVar 0) (tVar 1)) [some (.ref d), some (kV p.1)] Hx vj := fun {Hx} ex H2 e2 Q' q' => ⟨_, rfl, _, rfl, d, vj, rfl, .inl ⟨es, p.1, .inr ⟨od, (ex.trans e2) _ _ hdl⟩, rfl, hvj.symm⟩, q' H2 (Ex.refl _)⟩
          have stop : ∀ {Hx : Hp}, Ex H' Hx → (wdK p.1 && fieldG p.2) = false → Hx d = some (.frz od (.dK es)) ∧ Q (.bl false) (upd Hx d (.dK es)) := fun {Hx} ex hf => by
            refine ⟨ex _ _ hdl, ?_⟩
            have := k (upd Hx d (.dK es)) (e1.trans (unlock hd1 (e.trans ex)))
            rw [all_no pm hf] at this
            exact this
          refine Evl.q_when (b := !wdK p.1 || !isTupG p.2) (Evl.et_or (Evl.et_not (Evl.et_B (spB_ev (b := wdK p.1) (Evl.ea_cons (Evl.ev_var rfl) Evl.ea_nil) fun H3 _ => ⟨kV p.1, m, 1, fun _ => False, kG p.1, rfl, rp_key (okk.2 p pm), hm, (wdG_k _).symm⟩))) fun _ => Evl.et_not (Evl.et_B (Evl.ev_is (ev_isG (gt (Ex.refl _)) hr3) (by rw [isK_tup])))) (fun hb2 H2 e2 => Evl.s_ret Evl.ev_c fun H3 e3 => stop (e2.trans e3) ?_) fun hb2 H2 e2 => ?_
          · cases c1 : wdK p.1 with
            | false => rfl
            | true =>
              rw [c1] at hb2
              have : isTupG p.2 = false := by simpa using hb2
              show fieldG p.2 = false
              unfold fieldG; rw [isK_tup, this]; rfl
          · have c1 : wdK p.1 = true := by
              cases c : wdK p.1 with
              | true => rfl
              | false => rw [c] at hb2; cases hb2
            have c2 : isTupG p.2 = true := by
              cases c : isTupG p.2 with
              | true => rfl
              | false => rw [c1, c] at hb2; cases hb2
            have ef2 : fieldG p.2 = wordsG p.2 2 3 := by unfold fieldG; rw [isK_tup, c2]; rfl
            refine Evl.s_when (b := !wordsG p.2 2 3) (Evl.et_not (Evl.et_B (spB_ev (b := wordsG p.2 2 3) (Evl.ea_cons (gt e2) (Evl.ea_cons Evl.ev_c (Evl.ea_cons Evl.ev_c Evl.ea_nil))) fun H3 e3 => ⟨vj, m, n, _, p.2, 2, 3, rfl, rp_ex (e2.trans e3) hr3, hm, rfl⟩))) (fun hb3 H3 e3 => Evl.s_ret Evl.ev_c fun H4 e4 => stop (e2.trans (e3.trans e4)) ?_) fun hb3 H3 e3 => ⟨_, rfl, e.trans (e2.trans e3), fun q hq => ?_⟩
            · have hb3 : wordsG p.2 2 3 = false := by simpa using hb3
              rw [c1, ef2, hb3]; rfl
            · have hb3 : wordsG p.2 2 3 = true := by simpa using hb3
              rw [take_snocG hp] at hq
              rcases List.mem_append.mp hq with hq | hq
              · exact hdone q hq
              · rw [List.mem_singleton.mp hq, c1, ef2, hb3]; rfl
        · obtain ⟨o1, rfl, e, hdone⟩ := pv
          rw [le, List.take_of_length_le (Nat.le_refl _)] at hdone
          have := k (upd H' d (.dK es)) (e1.trans (unlock hd1 e))
          rw [List.all_eq_true.mpr hdone] at this
          exact this
/-! ### listed -/
/-- what the law asks of one entry, with the test of its inner list -/
def entryOk (ti : G → Bool) (p : KG) : Bool := wdK p.1 && (hasN p.2 ["fields", "inner"] && ti (atG p.2 "inner"))
def listedG (ti : G → Bool) (g : G) (mo : Int) : Bool := ((dicG g).map fun l => decide ((l.length : Int) ≤ mo) && l.all (entryOk ti)).getD false
def emptyG (g : G) : Bool := ((dicG g).map fun l => decide (l.length = 0)).getD false
theorem shapes_listed {g : G} {mo : Int} (ti : G → Bool) : (shapesG g mo && (lsG g).all fun p => ti (atG p.2 "inner")) = listedG ti g mo := by
  unfold shapesG named listedG lsG
  cases dicG g with
  | none => rfl
  | some l =>
    show (((decide ((l.length : Int) ≤ mo) && l.all fun p => wdK p.1) && l.all fun p => hasN p.2 ["fields", "inner"]) && l.all fun p => ti (atG p.2 "inner")) = (decide ((l.length : Int) ≤ mo) && l.all (entryOk ti))
    rw [Bool.and_assoc, Bool.and_assoc]
    congr 1
    induction l with
    | nil => rfl
    | cons p l ih =>
      simp only [List.all_cons]
      rw [← ih]
      unfold entryOk
      cases wdK p.1 <;> cases hasN p.2 ["fields", "inner"] <;> cases ti (atG p.2 "inner") <;> simp
theorem shapes0 (g : G) : shapesG g 0 = emptyG g := by
  unfold shapesG named emptyG
  cases dicG g with
  | none => rfl
  | some l =>
    cases l with
    | nil => rfl
    | cons p l =>
      show ((decide (((p :: l).length : Int) ≤ 0) && (p :: l).all fun p => wdK p.1) && (p :: l).all fun p => hasN p.2 ["fields", "inner"]) = decide ((p :: l).length = 0)
      rw [decide_eq_false (p := ((p :: l).length : Int) ≤ 0) (by simp only [List.length_cons]; omega), decide_eq_false (by simp)]; rfl
theorem lists_listed (g : G) : listsG g = listedG (fun i => listedG emptyG i 1) g 2 := by
  unfold listsG
  rw [← shapes_listed]
  have : outerOk = fun p => listedG emptyG (atG p.2 "inner") 1 := by
    funext p
    unfold outerOk innersG
    rw [← shapes_listed]
    have : (fun q : KG => shapesG (atG q.2 "inner") 0) = fun q : KG => emptyG (atG q.2 "inner") := by funext q; exact shapes0 _
    rw [this]
  rw [this]
def preListed (ti : G → Bool) (deep : Int) : List V → Hp → Bool → Prop := fun vs H b => ∃ (v : V) (m n : Nat) (S : Addr → Prop) (g : G) (mo : Int), vs = [v, .int mo, .int deep] ∧ Rp H m n S g v ∧ m ≤ 40000 ∧ b = listedG ti g mo
end
end Pk

namespace Pk
open PySem PySem.Spec PyProof.Rows L2 Ssb
open Evl (Ex Ev EvT EvL EvA EvU)
theorem ev_dnin {σ : L2.St} {H : Hp} {ta tb : TE} {a : Addr} {es : List (Key × V)} {k : Str} (hk : Ev tb σ H (.str k)) (h : Ev ta σ H (.ref a)) (hx : Rd H a (.dK es)) : Ev (tDNotIn tb ta) σ H (.bl (!(valV es (Sum.inr k : Key)).isSome)) := fun H1 e Q q =>
  hk H1 e _ fun H2 e2 => h H2 (e.trans e2) _ fun H3 e3 => ⟨a, valV es (Sum.inr k), rfl, .inl ⟨es, Sum.inr k, Evl.ex_rd ((e.trans e2).trans e3) hx, rfl, rfl⟩, q H3 (e2.trans e3)⟩
theorem int_two {n : Nat} : decide (V.int (n : Int) = V.int 2) = decide (n = 2) := by
  by_cases c : n = 2
  · rw [decide_eq_true c, c]; rfl
  · rw [decide_eq_false c, decide_eq_false fun h => c (by have := V.int.inj h; omega)]
theorem listed_no {ti : G → Bool} {g : G} {mo : Int} (h : ∀ l, dicG g = some l → (l.length : Int) ≤ mo → ∃ p ∈ l, entryOk ti p = false) : listedG ti g mo = false := by
  unfold listedG
  cases hd : dicG g with
  | none => rfl
  | some l =>
    show (decide ((l.length : Int) ≤ mo) && l.all (entryOk ti)) = false
    by_cases c : (l.length : Int) ≤ mo
    · obtain ⟨p, hp, h2⟩ := h l hd c
      rw [all_no hp h2, Bool.and_false]
    · rw [decide_eq_false c]; rfl
theorem has_two {l : List KG} : hasN (.dic l) ["fields", "inner"] = (decide (l.length = 2) && ((lkG l (Sum.inr "fields")).isSome && (lkG l (Sum.inr "inner")).isSome)) := by
  unfold hasN
  show (decide (l.length = 2) && ((lkG l (Sum.inr "fields")).isSome && ((lkG l (Sum.inr "inner")).isSome && true))) = _
  rw [Bool.and_true]
theorem has_none {g : G} {ns : List Str} (h : dicG g = none) : hasN g ns = false := by unfold hasN; rw [h]; rfl
theorem empty_none {g : G} (h : dicG g = none) : emptyG g = false := by unfold emptyG; rw [h]; rfl
theorem empty_of {l : List KG} : emptyG (.dic l) = decide (l.length = 0) := rfl
section
variable {P : Program} {w : World} {K : PySem.W.Frag} {mg : Str → Option Value} {base : Heap} {C_Shape C_InvalidShape C_InvalidData C_StayError : Addr}
def preLst (n : Nat) : List V → Hp → Bool → Prop := fun vs H b => ∃ (v : V) (m k : Nat) (S : Addr → Prop) (g : G) (mo deep : Int) (ti : G → Bool), vs = [v, .int mo, .int deep] ∧ Rp H m k S g v ∧ m ≤ 40000 ∧ b = listedG ti g mo ∧ (n = 1 ∧ deep = 2 ∧ ti = emptyG ∨ n = 2 ∧ deep = 1 ∧ ti = fun i => listedG emptyG i 1)
theorem ok__law_listed (T : Txt K mg C_Shape C_InvalidShape C_InvalidData C_StayError) (R : Prg K mg C_Shape C_InvalidShape C_InvalidData C_StayError) : ∀ n, ∃ f fd, Fn P w K mg base "_law_listed" (n + 3) ["_law_lists_here", "_law_most", "_law_deep"] (spB (preLst n)) f fd
  | 0 => by
    obtain ⟨f, fd, at_, F, kp⟩ := R._law_listed
    refine ⟨f, fd, F.ok sc__law_listed (fun vs H Q E h => ?_) (fun cdv A outer s H vs Q E hr h => ?_), at_, kp, F.binds (fun _ _ _ _ _ _ us hl => match us, hl with | [_, _, _], _ => rfl)⟩
    · obtain ⟨b, ⟨v, m, k, S, g, mo, deep, ti, rfl, _⟩, _⟩ := h; rfl
    · obtain ⟨b, ⟨v, m, k, S, g, mo, deep, ti, _, _, _, _, h⟩, _⟩ := h
      rcases h with ⟨h, _⟩ | ⟨h, _⟩ <;> cases h
  | n + 1 => by
    obtain ⟨_, _, G__law_is_word⟩ := ok__law_is_word (P := P) (w := w) (base := base) T R
    obtain ⟨_, _, G__law_listed⟩ := ok__law_listed T R n
    obtain ⟨f, fd, at_, F, kp⟩ := R._law_listed
    refine ⟨f, fd, F.ok sc__law_listed (fun vs H Q E h => ?_) (fun cdv A outer s H vs Q E hr h => ?_), at_, kp, F.binds (fun _ _ _ _ _ _ us hl => match us, hl with | [_, _, _], _ => rfl)⟩
    · obtain ⟨b, ⟨v, m, k, S, g, mo, deep, ti, rfl, _⟩, _⟩ := h; rfl
    · obtain ⟨b, ⟨v, m, kk, S, g, mo, deep, ti, rfl, hg, hm, rfl, hti⟩, k⟩ := h
      refine ⟨_, (pss_cons (ps_if (PW.pt (pw_or (pt_not (pt_val (pe_callB (r := rIsi K) call_isi (by rfl) T.isinstance (by decide +kernel) (pa_cons (pv 0) (pa_cons (pe_bltn (v := .ty "dict") (by rfl) T.dict boot_dict rfl) pa_nil))))) (pw_or1 (pt_cmpR op_gt (pe_callB call_lenD (by rfl) T.len (by decide +kernel) (pa_cons (pv 0) pa_nil)) (pv 1) (nomark _))))) (pss_one (ps_ret pe_bl)) pss_nil)
  (pss_cons (ps_lock (ps_for PassesOwn.never rfl (pi_keys (pv 0)) (pg_name (i := 3) sc__law_listed.nd rfl (Or.inl rfl))
    (pss_cons (ps_set (i := 4) sc__law_listed.nd rfl (Or.inl rfl) (pe_dget (hu_of hr) (pv 0) (pv 3) (fun _ _ => rfl)))
  (pss_cons (ps_if (PW.pt (pw_or (pt_not (pt_val (pcl G__law_is_word hr (pa_cons (pv 3) pa_nil)))) (pw_or (pt_not (pt_val (pe_callB (r := rIsi K) call_isi (by rfl) T.isinstance (by decide +kernel) (pa_cons (pv 4) (pa_cons (pe_bltn (v := .ty "dict") (by rfl) T.dict boot_dict rfl) pa_nil))))) (pw_or1 (pt_cmpR op_ne (pe_callB call_lenD (by rfl) T.len (by decide +kernel) (pa_cons (pv 4) pa_nil)) pe_int (nomark _)))))) (pss_one (ps_ret pe_bl)) pss_nil)
  (pss_cons (ps_if (PW.pt (pw_or (pt_cmp (pc_dnotin (hu_of hr) pe_str (pv 4))) (pw_or1 (pt_cmp (pc_dnotin (hu_of hr) pe_str (pv 4)))))) (pss_one (ps_ret pe_bl)) pss_nil)
  (pss_cons (ps_if (PW.pt (pw_and (pt_cmpR op_eq (pv 2) pe_int (nomark _)) (pw_and1 (PW.pt (pw_or (pt_not (pt_val (pe_callB (r := rIsi K) call_isi (by rfl) T.isinstance (by decide +kernel) (pa_cons (pe_dget (hu_of hr) (pv 4) pe_str (fun _ _ => rfl)) (pa_cons (pe_bltn (v := .ty "dict") (by rfl) T.dict boot_dict rfl) pa_nil))))) (pw_or1 (pt_cmpR op_gt (pe_callB call_lenD (by rfl) T.len (by decide +kernel) (pa_cons (pe_dget (hu_of hr) (pv 4) pe_str (fun _ _ => rfl)) pa_nil)) pe_int (nomark _)))))))) (pss_one (ps_ret pe_bl)) pss_nil)
  (pss_one (ps_if (PW.pt (pw_and (pt_cmpR op_eq (pv 2) pe_int (nomark _)) (pw_and1 (pt_not (pt_val (pcl G__law_listed hr (pa_cons (pe_dget (hu_of hr) (pv 4) pe_str (fun _ _ => rfl)) (pa_cons pe_int (pa_cons pe_int pa_nil))))))))) (pss_one (ps_ret pe_bl)) pss_nil))))))))
  (pss_one (ps_ret pe_bl)))), ?_⟩
      cases hd : dicG g with
      | none =>
        have : listedG ti g mo = false := listed_no fun l h => by rw [hd] at h; cases h
        rw [this] at k
        exact Evl.q_when (b := true) (Evl.et_or (a := true) (b := false) (Evl.et_is (Evl.et_not (Evl.et_B (ev_isC (Evl.ev_var rfl) hg ((isK_dic g).trans (by rw [hd]))))) rfl) fun h => nomatch h) (fun _ H1 e1 => Evl.s_ret Evl.ev_c fun H2 e2 => k H2 (e1.trans e2)) fun h => nomatch h
      | some l =>
        have eg := dicG_of hd
        subst eg
        obtain ⟨kk, d, es, rfl, rfl, _, hda, hl, le, okk, ekk, pr⟩ := rp_dic hg
        refine Evl.q_when (b := false || !decide ((l.length : Int) ≤ mo)) (Evl.et_or (Evl.et_not (a := true) (Evl.et_B (ev_isC (Evl.ev_var rfl) hg ki_dic_dict))) fun _ => Evl.et_test (Evl.ev_is (Evl.ev_op (ev_lenK (Evl.ev_var rfl) hda) (Evl.ev_var rfl) Evl.rv_I0) (by rw [le, lenI_gt]))) (fun hb H1 e1 => ?_) fun hb H1 e1 => ?_
        · have hb : ¬ (l.length : Int) ≤ mo := by simpa using hb
          have : listedG ti (.dic l) mo = false := listed_no fun l' h h2 => by cases h; exact absurd h2 hb
          rw [this] at k
          exact Evl.s_ret Evl.ev_c fun H2 e2 => k H2 (e1.trans e2)
        · have hb : (l.length : Int) ≤ mo := by simpa using hb
          have hd1 := e1 _ _ hda
          have ef : listedG ti (.dic l) mo = l.all (entryOk ti) := by
            show (decide ((l.length : Int) ≤ mo) && l.all (entryOk ti)) = _
            rw [decide_eq_true hb, Bool.true_and]
          rw [ef] at k
          refine for_lock (J := fun od => Itk d od es) (xs := fun _ => none) hd1 (fun od R r => ⟨_, rfl, d, od, rfl, .inl ⟨es, upd_same, r⟩⟩) (fun od => walk_keys) (fun od j σ' H' => ∃ (o1 o2 : Option V), σ' = [some (.ref d), some (.int mo), some (.int deep), o1, o2] ∧ Ex (upd H1 d (.frz od (.dK es))) H' ∧ ∀ p ∈ l.take j, entryOk ti p = true)
            (fun od => ⟨_, _, rfl, Ex.refl _, fun p hp => by simp at hp⟩) (fun od j σ' H' _ ⟨_, _, _, e, _⟩ => e _ _ upd_same) (fun od j x σ' H0 H' hlt pv y => ?_) fun od σ' H' pv => ?_
          · obtain ⟨o1, o2, rfl, e, hdone⟩ := pv
            obtain ⟨rfl, kk2, vj, hkv, rfl⟩ := y
            obtain ⟨p, hp, hk, hr2⟩ := pair_back pr hkv
            have hk : kk2 = p.1 := hk
            subst hk
            have pm := List.mem_of_getElem? hp
            have hvj : valV es p.1 = some vj := valV_atK (by rw [ekk]; exact okk.1) hkv
            have hr3 := rp_in hd1 e (rp_ex e1 hr2)
            have hdl : H' d = some (.frz od (.dK es)) := e _ _ upd_same
            have stop : ∀ {Hx : Hp}, Ex H' Hx → entryOk ti p = false → Hx d = some (.frz od (.dK es)) ∧ Q (.bl false) (upd Hx d (.dK es)) := fun {Hx} ex hf => by
              refine ⟨ex _ _ hdl, ?_⟩
              have := k (upd Hx d (.dK es)) (e1.trans (unlock hd1 (e.trans ex)))
              rw [all_no pm hf] at this
              exact this
            refine ⟨_, rfl, _, rfl, d, vj, rfl, .inl ⟨es, p.1, .inr ⟨od, hdl⟩, rfl, hvj.symm⟩, ?_⟩
            have wd : ∀ {Hx : Hp} {t3 t4 : Option V}, Ex H' Hx → Ev (tCall (spB preLWd) [] E0 (tCons (tVar 3) tNil)) [some (.ref d), some (.int mo), some (.int deep), some (kV p.1), t4] Hx (.bl (wdK p.1)) := fun {Hx t3 t4} ex =>
              spB_ev (b := wdK p.1) (Evl.ea_cons (Evl.ev_var rfl) Evl.ea_nil) fun H3 _ => ⟨kV p.1, m, 1, fun _ => False, kG p.1, rfl, rp_key (okk.2 p pm), hm, (wdG_k _).symm⟩
            cases hdp : dicG p.2 with
            | none =>
              refine Evl.q_when (b := !wdK p.1 || (true || false)) (Evl.et_or (Evl.et_not (Evl.et_B (wd (t3 := none) (Ex.refl _)))) fun _ => Evl.et_or (a := true) (b := false) (Evl.et_is (Evl.et_not (Evl.et_B (ev_isC (Evl.ev_var rfl) hr3 ((isK_dic p.2).trans (by rw [hdp]))))) rfl) fun h => nomatch h) (fun _ H2 e2 => Evl.s_ret Evl.ev_c fun H3 e3 => stop (e2.trans e3) (by unfold entryOk; rw [has_none hdp]; cases wdK p.1 <;> rfl)) fun h => by cases hw : wdK p.1 <;> rw [hw] at h <;> cases h
            | some dl =>
              have ep := dicG_of hdp
              obtain ⟨pk, pv⟩ := p
              have ep : pv = .dic dl := ep
              subst ep
              obtain ⟨kk3, a3, es3, rfl, rfl, _, ha3, hl3, le3, okk3, ekk3, pr3⟩ := rp_dic hr3
              refine Evl.q_when (b := !wdK pk || (false || !decide (dl.length = 2))) (Evl.et_or (Evl.et_not (Evl.et_B (wd (t3 := none) (Ex.refl _)))) fun _ => Evl.et_or (a := false) (Evl.et_not (a := true) (Evl.et_B (ev_isC (Evl.ev_var rfl) hr3 ki_dic_dict))) fun _ => Evl.et_test (Evl.ev_is (Evl.ev_op (ev_lenK (Evl.ev_var rfl) ha3) Evl.ev_c (Evl.rv_ne rfl)) (by rw [le3, int_two]))) (fun hb2 H2 e2 => Evl.s_ret Evl.ev_c fun H3 e3 => stop (e2.trans e3) ?_) fun hb2 H2 e2 => ?_
              · unfold entryOk
                show (wdK pk && (hasN (.dic dl) ["fields", "inner"] && ti (atG (.dic dl) "inner"))) = false
                rw [has_two]
                cases c1 : wdK pk with
                | false => rfl
                | true =>
                  rw [c1] at hb2
                  have : ¬ dl.length = 2 := by simpa using hb2
                  rw [decide_eq_false this]; rfl
              · have c1 : wdK pk = true := by
                  cases c : wdK pk with
                  | true => rfl
                  | false => rw [c] at hb2; cases hb2
                have c2 : dl.length = 2 := by
                  rw [c1] at hb2
                  simpa using hb2
                have eo : entryOk ti (pk, .dic dl) = (((lkG dl (Sum.inr "fields")).isSome && (lkG dl (Sum.inr "inner")).isSome) && ti (atG (.dic dl) "inner")) := by
                  unfold entryOk
                  show (wdK pk && (hasN (.dic dl) ["fields", "inner"] && ti (atG (.dic dl) "inner"))) = _
                  rw [has_two, c1, decide_eq_true c2, Bool.true_and, Bool.true_and]
                refine Evl.q_when (b := !(lkG dl (Sum.inr "fields")).isSome || !(lkG dl (Sum.inr "inner")).isSome) (Evl.et_or (Evl.et_test (Evl.ev_is (ev_dnin Evl.ev_c (Evl.ev_var rfl) (.inl (e2 _ _ ha3))) (by rw [vG_some pr3]))) fun _ => Evl.et_test (Evl.ev_is (ev_dnin Evl.ev_c (Evl.ev_var rfl) (.inl (e2 _ _ ha3))) (by rw [vG_some pr3]))) (fun hb3 H3 e3 => Evl.s_ret Evl.ev_c fun H4 e4 => stop (e2.trans (e3.trans e4)) ?_) fun hb3 H3 e3 => ?_
                · rw [eo]
                  cases c3 : (lkG dl (Sum.inr "fields")).isSome <;> cases c4 : (lkG dl (Sum.inr "inner")).isSome <;> first | rfl | (rw [c3, c4] at hb3; cases hb3)
                · have c3 : (lkG dl (Sum.inr "fields")).isSome = true := by
                    cases c : (lkG dl (Sum.inr "fields")).isSome with
                    | true => rfl
                    | false => rw [c] at hb3; cases hb3
                  have c4 : (lkG dl (Sum.inr "inner")).isSome = true := by
                    cases c : (lkG dl (Sum.inr "inner")).isSome with
                    | true => rfl
                    | false => rw [c, c3] at hb3; cases hb3
                  rw [c3, c4, Bool.and_self, Bool.true_and] at eo
                  obtain ⟨vi, hvi, hri⟩ := rp_get pr3 c4
                  have hri : Rp H' m kk3 _ (atG (.dic dl) "inner") vi := hri
                  have e23 := e2.trans e3
                  have gi : ∀ {Hx : Hp}, Ex H3 Hx → Ev (tDGet (tVar 4) (tC (.str "inner"))) [some (.ref d), some (.int mo), some (.int deep), some (kV pk), some (.ref a3)] Hx vi := fun {Hx} ex => ev_get (Evl.ev_var rfl) Evl.ev_c (.inl ((e23.trans ex) _ _ ha3)) hvi
                  refine Evl.q_when (b := decide (V.int deep = V.int 2) && !emptyG (atG (.dic dl) "inner")) (Evl.et_and (Evl.et_test (Evl.ev_op (Evl.ev_var rfl) Evl.ev_c (Evl.rv_eq rfl))) fun _ => ?_) (fun hb4 H4 e4 => Evl.s_ret Evl.ev_c fun H5 e5 => stop (e23.trans (e4.trans e5)) ?_) fun hb4 H4 e4 => ?_
                  · cases hdi : dicG (atG (.dic dl) "inner") with
                    | none =>
                      exact Evl.et_is (Evl.et_or (a := true) (b := false) (Evl.et_is (Evl.et_not (Evl.et_B (ev_isC (gi (Ex.refl _)) (rp_ex e23 hri) ((isK_dic _).trans (by rw [hdi]))))) rfl) fun h => nomatch h) (by rw [empty_none hdi]; rfl)
                    | some il =>
                      have ei := dicG_of hdi
                      rw [ei] at hri ⊢
                      obtain ⟨kk4, a4, es4, rfl, rfl, _, ha4, hl4, le4, _, _, _⟩ := rp_dic hri
                      exact Evl.et_is (Evl.et_or (Evl.et_not (a := true) (Evl.et_B (ev_isC (gi (Ex.refl _)) (rp_ex e23 hri) ki_dic_dict))) fun _ => Evl.et_test (Evl.ev_op (ev_lenK (gi (Ex.refl _)) (e23 _ _ ha4)) Evl.ev_c Evl.rv_I0)) (by
                        rw [le4, lenI_gt, empty_of]
                        show (false || _) = _
                        rw [Bool.false_or]; congr 1; congr 1
                        exact propext ⟨fun h => by omega, fun h => by omega⟩)
                  · rw [Bool.and_eq_true] at hb4
                    have hdp2 : deep = 2 := V.int.inj (of_decide_eq_true hb4.1)
                    rcases hti with ⟨_, _, rfl⟩ | ⟨_, h1, _⟩
                    · rw [eo]; simpa using hb4.2
                    · rw [hdp2] at h1; cases h1
                  · refine Evl.s_when (b := decide (V.int deep = V.int 1) && !listedG emptyG (atG (.dic dl) "inner") 1) (Evl.et_and (Evl.et_test (Evl.ev_op (Evl.ev_var rfl) Evl.ev_c (Evl.rv_eq rfl))) fun hz => Evl.et_not (Evl.et_B (spB_ev (b := listedG emptyG (atG (.dic dl) "inner") 1) (Evl.ea_cons (gi e4) (Evl.ea_cons Evl.ev_c (Evl.ea_cons Evl.ev_c Evl.ea_nil))) fun H5 e5 => ?_))) (fun hb5 H5 e5 => Evl.s_ret Evl.ev_c fun H6 e6 => stop (e23.trans (e4.trans (e5.trans e6))) ?_) fun hb5 H5 e5 => ⟨_, _, rfl, e.trans (e23.trans (e4.trans e5)), fun q hq => ?_⟩
                    · have hdp2 : deep = 1 := V.int.inj (of_decide_eq_true hz)
                      rcases hti with ⟨_, h1, _⟩ | ⟨h1, _, _⟩
                      · rw [hdp2] at h1; cases h1
                      · exact ⟨vi, m, kk3, _, _, 1, 2, emptyG, rfl, rp_ex (e23.trans (e4.trans e5)) hri, hm, rfl, .inl ⟨by omega, rfl, rfl⟩⟩
                    · rw [Bool.and_eq_true] at hb5
                      have hdp2 : deep = 1 := V.int.inj (of_decide_eq_true hb5.1)
                      rcases hti with ⟨_, h1, _⟩ | ⟨_, _, rfl⟩
                      · rw [hdp2] at h1; cases h1
                      · rw [eo]; simpa using hb5.2
                    · rw [take_snocG hp] at hq
                      rcases List.mem_append.mp hq with hq | hq
                      · exact hdone q hq
                      · rw [List.mem_singleton.mp hq, eo]
                        rcases hti with ⟨_, rfl, rfl⟩ | ⟨_, rfl, rfl⟩
                        · simpa using hb4
                        · simpa using hb5
          · obtain ⟨o1, o2, rfl, e, hdone⟩ := pv
            rw [le, List.take_of_length_le (Nat.le_refl _)] at hdone
            have := k (upd H' d (.dK es)) (e1.trans (unlock hd1 e))
            rw [List.all_eq_true.mpr hdone] at this
            exact this
end
end Pk

namespace Pk
open PySem PySem.Spec PyProof.Rows L2 Ssb
open Evl (Ex Ev EvT EvL EvA EvU)
/-- what stands where in described lists that are well formed -/
theorem descG {H : Hp} {m n : Nat} {S : Addr → Prop} {l : List KG} {v : V} (hv : Rp H m n S (.dic l) v) (hok : listsG (.dic l) = true) :
    ∃ a es, v = .ref a ∧ S a ∧ H a = some (.dK es) ∧ (es.map fun e : Key × V => e.1) = (l.map fun p : KG => p.1) ∧ l.length ≤ 2 ∧ okK m l ∧
      ∀ (j : Nat) (p : KG), l[j]? = some p → ∃ x xes fv ia ies li, es[j]? = some (p.1, V.ref x) ∧ p.1 = Sum.inr (nmK p.1) ∧ (S x ∧ x ≠ a) ∧ H x = some (.dK xes) ∧
        valV xes (Sum.inr "fields" : Key) = some fv ∧ Rp H m (n - 2) (fun b => S b ∧ b ≠ a) (atG p.2 "fields") fv ∧
        valV xes (Sum.inr "inner" : Key) = some (V.ref ia) ∧ ((S ia ∧ ia ≠ a) ∧ ia ≠ x) ∧ H ia = some (.dK ies) ∧ atG p.2 "inner" = .dic li ∧ li.length ≤ 1 ∧ okK m li ∧ (ies.map fun e : Key × V => e.1) = (li.map fun p : KG => p.1) ∧
        ∀ (i : Nat) (q : KG), li[i]? = some q → ∃ y yes gv, ies[i]? = some (q.1, V.ref y) ∧ q.1 = Sum.inr (nmK q.1) ∧ ((S y ∧ y ≠ a) ∧ y ≠ ia) ∧ H y = some (.dK yes) ∧ Rp H m (n - 3) (fun b => (S b ∧ b ≠ a) ∧ b ≠ ia) q.2 (.ref y) ∧
          valV yes (Sum.inr "fields" : Key) = some gv ∧ Rp H m (n - 3) (fun b => (S b ∧ b ≠ a) ∧ b ≠ ia) (atG q.2 "fields") gv := by
  obtain ⟨_, el, l2, hall⟩ := lists_at hok
  cases el
  obtain ⟨n, d, es, rfl, rfl, sd, hd, _, le, okk, ek, pr⟩ := rp_dic hv
  refine ⟨d, es, rfl, sd, hd, ek, l2, okk, fun j p hp => ?_⟩
  obtain ⟨⟨key, vv⟩, hes, hk1, hr2⟩ := pair_at pr hp
  obtain ⟨wk, hs2, li, eli, li1, hall2⟩ := hall p (List.mem_of_getElem? hp)
  obtain ⟨l', ep, _, hfl, hin⟩ := has2 hs2
  have hk1 : key = p.1 := hk1
  subst hk1
  have hr2 : Rp H m n (fun b => S b ∧ b ≠ d) p.2 vv := hr2
  rw [ep] at hr2
  obtain ⟨n, de, ee, rfl, rfl, sde, hde, _, _, _, _, pe⟩ := rp_dic hr2
  obtain ⟨vf, hvf, hrf⟩ := rp_get pe hfl
  obtain ⟨vi, hvi, hri⟩ := rp_get pe hin
  rw [← ep] at hrf hri
  rw [eli] at hri
  obtain ⟨n, di, ei, rfl, rfl, sdi, hdi, _, lei, okki, eki, pri⟩ := rp_dic hri
  refine ⟨de, ee, vf, di, ei, li, hes, wdK_nm wk, sde, hde, hvf, rp_S (fun b hb => hb.1) hrf, hvi, sdi, hdi, eli, li1, okki, eki, fun i q hq => ?_⟩
  obtain ⟨⟨key, vv⟩, hei, hk2, hr3⟩ := pair_at pri hq
  obtain ⟨wq, hs3, _⟩ := hall2 q (List.mem_of_getElem? hq)
  obtain ⟨l3, eq, _, hfl2, _⟩ := has2 hs3
  have hk2 : key = q.1 := hk2
  subst hk2
  have hr3 : Rp H m n (fun b => (((S b ∧ b ≠ d) ∧ b ≠ de) ∧ b ≠ di)) q.2 vv := hr3
  have hr4 := hr3
  rw [eq] at hr3
  obtain ⟨n, dj, ej, rfl, rfl, sdj, hdj, _, _, _, _, pj⟩ := rp_dic hr3
  obtain ⟨vg, hvg, hrg⟩ := rp_get pj hfl2
  rw [← eq] at hrg
  exact ⟨dj, ej, vg, hei, wdK_nm wq, ⟨sdj.1.1, sdj.2⟩, hdj, rp_S (fun b hb => ⟨hb.1.1, hb.2⟩) hr4, hvg, rp_up (by omega) (Nat.le_refl _) (rp_S (fun b hb => ⟨hb.1.1.1, hb.1.2⟩) hrg)⟩
theorem flags_w {g : G} {lo hi : Int} : (!(isLstG g || isTupG g) || !wordsG g lo hi) = !wordsG g lo hi := by
  cases g <;> rfl
theorem wrong_fld {l : List RoG} {X : Option Str} {r : RoG} (h : r ∈ l) (hf : fieldsG r.2.2 = false) : (if (!l.all fun r => fieldsG r.2.2) = true then some ("fields" : Str) else X) = some ("fields" : Str) := by
  rw [all_no h hf]; rfl
section
variable {P : Program} {w : World} {K : PySem.W.Frag} {mg : Str → Option Value} {base : Heap} {C_Shape C_InvalidShape C_InvalidData C_StayError : Addr}
def spLWrong : Sp := fun vs H Q _ => ∃ (v1 v2 : V) (m n : Nat) (S1 S2 : Addr → Prop) (g1 g2 : G), vs = [v1, v2] ∧ Rp H m n S1 g1 v1 ∧ Rp H m n S2 g2 v2 ∧ m ≤ 40000 ∧ ∀ H', Ex H H' → Q (oVG (wrongG g1 g2)) H'
theorem ok__law_wrong (T : Txt K mg C_Shape C_InvalidShape C_InvalidData C_StayError) (R : Prg K mg C_Shape C_InvalidShape C_InvalidData C_StayError) : ∃ f fd, Fn P w K mg base "_law_wrong" 6 ["_law_flags", "_law_lists_here"] spLWrong f fd := by
  obtain ⟨_, _, G__law_are_words⟩ := ok__law_are_words (P := P) (w := w) (base := base) T R
  obtain ⟨_, _, G__law_listed⟩ := ok__law_listed (P := P) (w := w) (base := base) T R 2
  obtain ⟨_, _, G__law_fields_fit⟩ := ok__law_fields_fit (P := P) (w := w) (base := base) T R
  obtain ⟨f, fd, at_, F, kp⟩ := R._law_wrong
  refine ⟨f, fd, F.ok sc__law_wrong (fun vs H Q E h => ?_) (fun cdv A outer s H vs Q E hr h => ?_), at_, kp, F.binds (fun _ _ _ _ _ _ us hl => match us, hl with | [_, _], _ => rfl)⟩
  · obtain ⟨v1, v2, m, n, S1, S2, g1, g2, rfl, _⟩ := h; rfl
  · obtain ⟨v1, v2, m, n, S1, S2, g1, g2, rfl, h1, h2, hm, k⟩ := h
    refine ⟨_, (pss_cons (ps_if (pt_not (pt_val (pcl G__law_are_words hr (pa_cons (pv 0) (pa_cons pe_int (pa_cons pe_int pa_nil)))))) (pss_one (ps_ret pe_str)) pss_nil)
  (pss_cons (ps_if (pt_not (pt_val (pcl G__law_listed hr (pa_cons (pv 1) (pa_cons pe_int (pa_cons pe_int pa_nil)))))) (pss_one (ps_ret pe_str)) pss_nil)
  (pss_cons (ps_set (i := 2) sc__law_wrong.nd rfl (Or.inl rfl) (pe_lst pa_nil))
  (pss_cons (ps_lock (ps_for PassesOwn.never rfl (pi_keys (pv 1)) (pg_name (i := 3) sc__law_wrong.nd rfl (Or.inl rfl))
    (pss_cons (ps_expr (show PE _ _ (tBM K _ _ _ _) from pe_bm PySem.F.plainAttrs_list PySem.F.slot_list_append PySem.F.type_list_append mt_append (pv 2) (pa_cons (pv 3) pa_nil)))
  (pss_cons (ps_lock (ps_for PassesOwn.never rfl (pi_keys (pe_dget (hu_of hr) (pe_dget (hu_of hr) (pv 1) (pv 3) (fun _ _ => rfl)) pe_str (fun _ _ => rfl))) (pg_name (i := 4) sc__law_wrong.nd rfl (Or.inl rfl))
    (pss_cons (ps_expr (show PE _ _ (tBM K _ _ _ _) from pe_bm PySem.F.plainAttrs_list PySem.F.slot_list_append PySem.F.type_list_append mt_append (pv 2) (pa_cons (pv 4) pa_nil)))
  (pss_one (ps_if (pt_not (pt_val (pcl G__law_fields_fit hr (pa_cons (pe_dget (hu_of hr) (pe_dget (hu_of hr) (pe_dget (hu_of hr) (pe_dget (hu_of hr) (pv 1) (pv 3) (fun _ _ => rfl)) pe_str (fun _ _ => rfl)) (pv 4) (fun _ _ => rfl)) pe_str (fun _ _ => rfl)) pa_nil)))) (pss_one (ps_ret pe_str)) pss_nil)))))
  (pss_one (ps_if (pt_not (pt_val (pcl G__law_fields_fit hr (pa_cons (pe_dget (hu_of hr) (pe_dget (hu_of hr) (pv 1) (pv 3) (fun _ _ => rfl)) pe_str (fun _ _ => rfl)) pa_nil)))) (pss_one (ps_ret pe_str)) pss_nil))))))
  (pss_cons (ps_for PassesOwn.never rfl (pi_range1 (by rfl) T.range (pa_cons (pe_callB (r := rLenA K) call_len (by rfl) T.len (by decide +kernel) (pa_cons (pv 2) pa_nil)) pa_nil)) (pg_name (i := 5) sc__law_wrong.nd rfl (Or.inl rfl))
    (pss_one (ps_if (pt_cmpR (r := rIn K false) op_in_seq (pe_ix (r := rIxL K) ix_list (pv 2) (pv 5) (fun _ _ => rfl)) (pe_slice (r := rSlL K) sl_list (pv 2) po_none (po_some (pv 5))) (by rfl)) (pss_one (ps_ret pe_str)) pss_nil)))
  (pss_one (ps_ret pe_non))))))), ?_⟩
    refine Evl.q_when (b := !wordsG g1 0 2) (Evl.et_not (Evl.et_B (spB_ev (Evl.ea_cons (Evl.ev_var rfl) (Evl.ea_cons Evl.ev_c (Evl.ea_cons Evl.ev_c Evl.ea_nil))) fun H2 e2 => ⟨v1, m, n, S1, g1, 0, 2, rfl, rp_ex e2 h1, hm, rfl⟩))) (fun hb H1 e1 => ?_) fun hb H1 e1 => ?_
    · have e : wrongG g1 g2 = some ("flags" : Str) := by unfold wrongG; rw [flags_w, if_pos hb]
      rw [e] at k
      exact Evl.s_ret Evl.ev_c fun H2 e2 => k H2 (e1.trans e2)
    have w1 : wrongG g1 g2 = if (!listsG g2) = true then some ("lists" : Str) else if (!(rowsG (lsG g2)).all fun r => fieldsG r.2.2) = true then some ("fields" : Str) else if ((rowsG (lsG g2)).map fun r : RoG => r.1).Nodup then none else some ("names" : Str) := by
      unfold wrongG; rw [flags_w, if_neg (by rw [hb]; exact fun h => nomatch h)]
    rw [w1] at k
    refine Evl.q_when (b := !listsG g2) (Evl.et_not (Evl.et_B (spB_ev (Evl.ea_cons (Evl.ev_var rfl) (Evl.ea_cons Evl.ev_c (Evl.ea_cons Evl.ev_c Evl.ea_nil))) fun H2 e2 => ⟨v2, m, n, S2, g2, 2, 1, fun i => listedG emptyG i 1, rfl, rp_ex (e1.trans e2) h2, hm, lists_listed g2, .inr ⟨rfl, rfl, rfl⟩⟩))) (fun hb H2 e2 => ?_) fun hb H2 e2 => ?_
    · rw [if_pos hb] at k
      exact Evl.s_ret Evl.ev_c fun H3 e3 => k H3 (e1.trans (e2.trans e3))
    rw [if_neg (by rw [hb]; exact fun h => nomatch h)] at k
    have hl : listsG g2 = true := by simpa using hb
    obtain ⟨l, rfl, _⟩ := lists_at hl
    have k : ∀ (H' : Hp), Ex H H' → Q (oVG (if (!(rowsG l).all fun r => fieldsG r.2.2) = true then some ("fields" : Str) else if ((rowsG l).map fun r : RoG => r.1).Nodup then none else some ("names" : Str))) H' := k
    obtain ⟨a, es, rfl, _, ha, ek, l2, okk, desc⟩ := descG h2 hl
    have le : es.length = l.length := by have := congrArg List.length ek; simpa using this
    have r4 : (rowsG l).length ≤ 4 := rows_four hl
    refine Evl.q_asgL (Evl.el_lst Evl.ea_nil (by decide)) fun r H3 hr0 e3 hr1 => ?_
    have e03 : Ex H H3 := e1.trans (e2.trans e3)
    have hrH : H r = none := Evl.fresh_back (e1.trans e2) hr0
    have nra : r ≠ a := fun e => by rw [e, ha] at hrH; cases hrH
    have a3 := e03 _ _ ha
    refine for_lock (J := fun od => Itk a od es) (xs := fun _ => none) (d := a) (es := es) a3 (fun od R r => ⟨_, rfl, a, od, rfl, .inl ⟨es, upd_same, r⟩⟩) (fun od => walk_keys)
      (fun od j σ' H' => ∃ (o3 o4 : Option V), σ' = [some v1, some (.ref a), some (.ref r), o3, o4, none] ∧ Ex (upd H a (.frz od (.dK es))) H' ∧ H' r = some (.lst (((rowsG (l.take j)).map fun r : RoG => r.1).map V.str)) ∧ ∀ ro ∈ rowsG (l.take j), fieldsG ro.2.2 = true)
      (fun od => ⟨_, _, rfl, Ex.both e03, by rw [upd_ne nra]; exact hr1, fun ro h => nomatch h⟩) (fun od j σ' H' _ ⟨_, _, _, e, _⟩ => e _ _ upd_same) (fun od j x σ' H0 H' hlt pv y => ?_) fun od σ' H' pv => ?_
    · obtain ⟨o3, o4, rfl, e, hacc, hfit⟩ := pv
      obtain ⟨rfl, kk, vj, hkv, rfl⟩ := y
      have hq : l[j]? = some (l[j]'(by omega)) := List.getElem?_eq_getElem (by omega)
      generalize l[j]'(by omega) = p at hq
      obtain ⟨x, xes, fv, ia, ies, li, hes, hpk, ⟨_, nxa⟩, hx, hfv, hrf, hiv, ⟨⟨_, nia⟩, nix⟩, hia, eli, li1, okki, eki, hin⟩ := desc j p hq
      obtain ⟨rfl, rfl⟩ := Prod.mk.inj (Option.some.inj (hkv.symm.trans hes))
      have pm := List.mem_of_getElem? hq
      have hvj : valV es (Sum.inr (nmK p.1) : Key) = some (.ref x) := by
        have := valV_atK (by rw [ek]; exact okk.1) hes
        rw [hpk] at this
        exact this
      have lie : ies.length = li.length := by have := congrArg List.length eki; simpa using this
      have ro : rowsOfG p = (nmK p.1, none, atG p.2 "fields") :: li.map fun q => (nmK q.1, some (nmK p.1), atG q.2 "fields") := by unfold rowsOfG; rw [eli]; rfl
      have rt : rowsG (l.take (j + 1)) = rowsG (l.take j) ++ rowsOfG p := by
        rw [take_snocG hq]; unfold rowsG; rw [List.flatMap_append, List.flatMap_singleton]
      have rl : (rowsG (l.take j)).length ≤ 4 := by
        have : rowsG l = rowsG (l.take j) ++ rowsG (l.drop j) := by
          unfold rowsG; rw [← List.flatMap_append, List.take_append_drop]
        rw [this, List.length_append] at r4; omega
      have inP : ∀ {rr : RoG}, rr ∈ rowsOfG p → rr ∈ rowsG l := fun h => List.mem_flatMap.mpr ⟨p, pm, h⟩
      have hks : kV p.1 = V.str (nmK p.1) := congrArg kV hpk
      rw [hks]
      have rL : (upd H a (.frz od (.dK es))) r = none := by rw [upd_ne nra]; exact hrH
      have xL : (upd H a (.frz od (.dK es))) x = some (.dK xes) := by rw [upd_ne nxa]; exact hx
      have iL : (upd H a (.frz od (.dK es))) ia = some (.dK ies) := by rw [upd_ne nia]; exact hia
      have aL : (upd H a (.frz od (.dK es))) a = some (.frz od (.dK es)) := upd_same
      have nir : ia ≠ r := fun z => by rw [z, rL] at iL; cases iL
      refine Evl.q_app (l := r) hacc (Evl.ev_var rfl) (Evl.ev_var rfl) (by simp only [List.length_map]; omega) fun H4 e4 => ?_
      have e5 : Ex (upd H a (.frz od (.dK es))) (upd H4 r (.lst (((rowsG (l.take j)).map fun r : RoG => r.1).map V.str ++ [.str (nmK p.1)]))) := Ex.mut (e.trans e4) rL
      have r5 : (upd H4 r (.lst (((rowsG (l.take j)).map fun r : RoG => r.1).map V.str ++ [.str (nmK p.1)]))) r = some (.lst (((rowsG (l.take j)).map fun r : RoG => r.1).map V.str ++ [.str (nmK p.1)])) := upd_same
      generalize (upd H4 r (.lst (((rowsG (l.take j)).map fun r : RoG => r.1).map V.str ++ [.str (nmK p.1)]))) = H5 at e5 r5 ⊢
      refine for_lock (J := fun od2 => Itk ia od2 ies) (xs := fun _ => none) (d := ia) (es := ies) (e5 _ _ iL) (fun od2 R r => ⟨_, rfl, _, rfl, a, .ref x, rfl, .inl ⟨es, Sum.inr (nmK p.1), .inr ⟨od, (by rw [upd_ne nia.symm]; exact e5 _ _ aL)⟩, rfl, hvj.symm⟩, x, _, rfl, .inl ⟨xes, Sum.inr "inner", .inl (by rw [upd_ne nix.symm]; exact e5 _ _ xL), rfl, hiv.symm⟩, ia, od2, rfl, .inl ⟨ies, upd_same, r⟩⟩) (fun od2 => walk_keys)
        (fun od2 i σ' H6 => ∃ (o4 : Option V), σ' = [some v1, some (.ref a), some (.ref r), some (.str (nmK p.1)), o4, none] ∧ Ex (upd (upd H a (.frz od (.dK es))) ia (.frz od2 (.dK ies))) H6 ∧ H6 r = some (.lst ((((rowsG (l.take j)).map fun r : RoG => r.1) ++ nmK p.1 :: (li.take i).map fun q => nmK q.1).map V.str)) ∧ ∀ q ∈ li.take i, fieldsG (atG q.2 "fields") = true)
        (fun od2 => ⟨_, rfl, Ex.both e5, by rw [upd_ne nir.symm, r5, List.map_append]; rfl, fun q h => nomatch h⟩) (fun od2 i σ' H' _ ⟨_, _, e, _⟩ => e _ _ upd_same) (fun od2 i x2 σ' H0 H6 hlt2 pv2 y2 => ?_) fun od2 σ' H6 pv2 => ?_
      · obtain ⟨o4, rfl, e6, hacc6, hfit6⟩ := pv2
        obtain ⟨rfl, kk2, vk, hkv2, rfl⟩ := y2
        have hq2 : li[i]? = some (li[i]'(by omega)) := List.getElem?_eq_getElem (by omega)
        generalize li[i]'(by omega) = q at hq2
        obtain ⟨yy, yes, gv, hies, hqk, ⟨⟨_, nya⟩, nyi⟩, hy, _, hgv, hrg⟩ := hin i q hq2
        obtain ⟨rfl, rfl⟩ := Prod.mk.inj (Option.some.inj (hkv2.symm.trans hies))
        have hvk : valV ies (Sum.inr (nmK q.1) : Key) = some (.ref yy) := by
          have := valV_atK (by rw [eki]; exact okki.1) hies
          rw [hqk] at this
          exact this
        have hks2 : kV q.1 = V.str (nmK q.1) := congrArg kV hqk
        rw [hks2]
        refine Evl.q_app (l := r) hacc6 (Evl.ev_var rfl) (Evl.ev_var rfl) (by simp only [List.length_map, List.length_append, List.length_cons, List.length_take]; omega) fun H7 e7 => ?_
        have rL2 : (upd (upd H a (.frz od (.dK es))) ia (.frz od2 (.dK ies))) r = none := by rw [upd_ne nir.symm]; exact rL
        have e8 := Ex.mut (o := (.lst ((((rowsG (l.take j)).map fun r : RoG => r.1) ++ nmK p.1 :: (li.take i).map fun q => nmK q.1).map V.str ++ [.str (nmK q.1)]))) (e6.trans e7) rL2
        have r8 : (upd H7 r (.lst ((((rowsG (l.take j)).map fun r : RoG => r.1) ++ nmK p.1 :: (li.take i).map fun q => nmK q.1).map V.str ++ [.str (nmK q.1)]))) r = some (.lst ((((rowsG (l.take j)).map fun r : RoG => r.1) ++ nmK p.1 :: (li.take (i + 1)).map fun q => nmK q.1).map V.str)) := by
          rw [upd_same, take_snocG hq2]; simp
        generalize (upd H7 r (.lst ((((rowsG (l.take j)).map fun r : RoG => r.1) ++ nmK p.1 :: (li.take i).map fun q => nmK q.1).map V.str ++ [.str (nmK q.1)]))) = H8 at e8 r8 ⊢
        have aL8 : H8 a = some (.frz od (.dK es)) := e8 _ _ (by rw [upd_ne nia.symm]; exact aL)
        have xL8 : H8 x = some (.dK xes) := e8 _ _ (by rw [upd_ne nix.symm]; exact xL)
        have iL8 : H8 ia = some (.frz od2 (.dK ies)) := e8 _ _ upd_same
        have yL8 : H8 yy = some (.dK yes) := e8 _ _ (by rw [upd_ne nyi, upd_ne nya]; exact hy)
        have hrg8 : Rp H8 m (n - 3) (fun b => (S2 b ∧ b ≠ a) ∧ b ≠ ia) (atG q.2 "fields") gv := rp_ex e8 (rp_lock iL (fun b z => z.2) (rp_lock ha (fun b z => z.1.2) hrg))
        have inR : (nmK q.1, some (nmK p.1), atG q.2 "fields") ∈ rowsG l := inP (by rw [ro]; exact List.mem_cons_of_mem _ (List.mem_map.mpr ⟨q, List.mem_of_getElem? hq2, rfl⟩))
        refine Evl.s_when (b := !fieldsG (atG q.2 "fields")) (Evl.et_not (Evl.et_B (spB_ev (b := fieldsG (atG q.2 "fields")) (Evl.ea_cons (ev_get (ev_get (ev_get (ev_get (Evl.ev_var rfl) (Evl.ev_var rfl) (.inr ⟨od, aL8⟩) hvj) Evl.ev_c (.inl xL8) hiv) (Evl.ev_var rfl) (.inr ⟨od2, iL8⟩) hvk) Evl.ev_c (.inl yL8) hgv) Evl.ea_nil) fun H9 e9 => ⟨gv, m, _, _, _, rfl, rp_ex e9 hrg8, hm, rfl⟩))) (fun hb7 H9 e9 => Evl.s_ret Evl.ev_c fun H10 e10 => ?_) fun hb7 H9 e9 => ?_
        · have hb7 : fieldsG (atG q.2 "fields") = false := by simpa using hb7
          refine ⟨(e9.trans e10) _ _ iL8, by rw [upd_ne nia.symm]; exact (e9.trans e10) _ _ aL8, ?_⟩
          have := k _ (unlock ha (unlock iL (e8.trans (e9.trans e10))))
          rw [wrong_fld inR hb7] at this
          exact this
        · have hb7 : fieldsG (atG q.2 "fields") = true := by simpa using hb7
          refine ⟨_, rfl, e8.trans e9, e9 _ _ r8, fun q' hq' => ?_⟩
          rw [take_snocG hq2] at hq'
          rcases List.mem_append.mp hq' with hq' | hq'
          · exact hfit6 q' hq'
          · rw [List.mem_singleton.mp hq']; exact hb7
      · obtain ⟨o4, rfl, e6, hacc6, hfit6⟩ := pv2
        rw [lie, List.take_of_length_le (Nat.le_refl _)] at hacc6 hfit6
        have e8 := unlock iL e6
        have r8 : (upd H6 ia (.dK ies)) r = some (.lst ((((rowsG (l.take j)).map fun r : RoG => r.1) ++ nmK p.1 :: li.map fun q => nmK q.1).map V.str)) := by rw [upd_ne nir.symm]; exact hacc6
        generalize (upd H6 ia (.dK ies)) = H8 at e8 r8 ⊢
        have hrf8 : Rp H8 m (n - 2) (fun b => S2 b ∧ b ≠ a) (atG p.2 "fields") fv := rp_ex e8 (rp_lock ha (fun b z => z.2) hrf)
        refine Evl.s_when (b := !fieldsG (atG p.2 "fields")) (Evl.et_not (Evl.et_B (spB_ev (b := fieldsG (atG p.2 "fields")) (Evl.ea_cons (ev_get (ev_get (Evl.ev_var rfl) (Evl.ev_var rfl) (.inr ⟨od, e8 _ _ aL⟩) hvj) Evl.ev_c (.inl (e8 _ _ xL)) hfv) Evl.ea_nil) fun H9 e9 => ⟨fv, m, _, _, _, rfl, rp_ex e9 hrf8, hm, rfl⟩))) (fun hb7 H9 e9 => Evl.s_ret Evl.ev_c fun H10 e10 => ?_) fun hb7 H9 e9 => ?_
        · have hb7 : fieldsG (atG p.2 "fields") = false := by simpa using hb7
          refine ⟨(e8.trans (e9.trans e10)) _ _ aL, ?_⟩
          have := k _ (unlock ha (e8.trans (e9.trans e10)))
          rw [wrong_fld (inP (by rw [ro]; exact List.mem_cons_self)) hb7] at this
          exact this
        · have hb7 : fieldsG (atG p.2 "fields") = true := by simpa using hb7
          refine ⟨_, _, rfl, e8.trans e9, ?_, fun q' hq' => ?_⟩
          · rw [e9 _ _ r8, rt, ro]; simp [Function.comp_def]
          · rw [rt, ro] at hq'
            rcases List.mem_append.mp hq' with hq' | hq'
            · exact hfit q' hq'
            · rcases List.mem_cons.mp hq' with hq' | hq'
              · rw [hq']; exact hb7
              · obtain ⟨z, hz, rfl⟩ := List.mem_map.mp hq'
                exact hfit6 z hz
    · obtain ⟨o3, o4, rfl, e, hacc, hfit⟩ := pv
      rw [le, List.take_of_length_le (Nat.le_refl _)] at hacc hfit
      have e8 := unlock ha e
      have r8 : (upd H' a (.dK es)) r = some (.lst (((rowsG l).map fun r : RoG => r.1).map V.str)) := by rw [upd_ne nra]; exact hacc
      generalize (upd H' a (.dK es)) = H8 at e8 r8 ⊢
      have hall : ((rowsG l).all fun r => fieldsG r.2.2) = true := List.all_eq_true.mpr hfit
      rw [hall] at k
      have k : ∀ (H' : Hp), Ex H H' → Q (oVG (if ((rowsG l).map fun r : RoG => r.1).Nodup then none else some ("names" : Str))) H' := k
      have ln : ((rowsG l).map fun r : RoG => r.1).length ≤ 4 := by rw [List.length_map]; exact r4
      generalize (rowsG l).map (fun r : RoG => r.1) = ns at k r8 ln
      have lns : (ns.map V.str).length = ns.length := List.length_map ..
      refine Evl.q_forR1 (n := ((ns.map V.str).length : Int)) (Evl.ea_cons (ev_lenL (Evl.ev_var rfl) (.inl (Evl.sq_of r8))) Evl.ea_nil) ⟨by omega, by omega⟩ (fun j σ' H' => ∃ o5, σ' = [some v1, some (.ref a), some (.ref r), o3, o4, o5] ∧ Ex H8 H' ∧ (ns.take j).Nodup) (fun H9 e9 => ⟨_, rfl, e9, List.nodup_nil⟩) (fun j σ' H' hj pv => ?_) fun σ' H' pv => ?_
      · obtain ⟨o5, rfl, e9, wnd⟩ := pv
        have hj : j < ns.length := by omega
        obtain ⟨y, hy⟩ : ∃ y, ns[j]? = some y := ⟨_, List.getElem?_eq_getElem hj⟩
        have hyj : (ns.map V.str)[j]? = some (V.str y) := by rw [List.getElem?_map, hy]; rfl
        refine Evl.s_when (b := inV (.str y) ((ns.take j).map V.str)) (Evl.et_test (Evl.ev_opL (xs := (ns.take j).map V.str) (Evl.ev_op (Evl.ev_var rfl) (Evl.ev_var rfl) (Evl.rv_ixL (Evl.sq_of (e9 _ _ r8)) (atI_nat hyj))) (fun H2 e2 Q' q' => ?_) fun p H2 hp e2 => Evl.rv_isL (Evl.sq_of hp) rfl (flat_strs _))) (fun hb2 H2 e2 => Evl.s_ret Evl.ev_c fun H3 e3 => ?_) fun hb2 H2 e2 => ⟨_, rfl, e9.trans e2, ?_⟩
        · refine ⟨_, rfl, _, rfl, _, rfl, r, _, rfl, Evl.sq_of ((e9.trans e2) _ _ r8), fun p hp => q' p _ hp (Ex.new hp) ?_⟩
          rw [upd_same, cut_to, List.map_take]
        · have hy2 : y ∈ ns.take j := inV_strs.mp hb2
          have := k H3 (e8.trans (e9.trans (e2.trans e3)))
          rw [if_neg fun nd => not_take nd hy hy2] at this
          exact this
        · have hy2 : y ∉ ns.take j := fun hm => by rw [inV_strs.mpr hm] at hb2; cases hb2
          rw [take_snocG hy]
          refine List.nodup_append.mpr ⟨wnd, by simp, fun a ha b hb => ?_⟩
          rw [List.mem_singleton.mp hb]
          intro e
          exact hy2 (by rw [← e]; exact ha)
      · obtain ⟨o5, rfl, e9, wnd⟩ := pv
        have hn : ns.Nodup := by
          have : ((ns.map V.str).length : Int).toNat = ns.length := by omega
          rw [this, List.take_of_length_le (Nat.le_refl _)] at wnd
          exact wnd
        rw [if_pos hn] at k
        exact Evl.s_ret Evl.ev_c fun H10 e10 => k H10 (e8.trans (e9.trans e10))
end
end Pk

namespace Pk
open PySem PySem.Spec PyProof.Rows L2 Ssb
open Evl (Ex Ev EvT EvL EvA EvU)
theorem rp_mv {S c : Addr} {H H' : Hp} (mv : Mv S c H H') {m n : Nat} {Z : Addr → Prop} {d : G} {v : V} (n1 : ¬ Z S) (n2 : ¬ Z c) (h : Rp H m n Z d v) : Rp H' m n Z d v := by
  obtain ⟨_, k, cs, h1, h2, _⟩ := mv.a
  refine rp_to (fun b o hb hp => mv.fr b o (fun e => ?_) (fun e => ?_) hb) h
  · rcases hp with hp | ⟨xs, rfl⟩
    · exact n1 (e ▸ hp)
    · rw [e, h1] at hb; cases hb
  · rcases hp with hp | ⟨xs, rfl⟩
    · exact n2 (e ▸ hp)
    · rw [e, h2] at hb; cases hb
theorem gv_mv {S c : Addr} {H H' : Hp} (mv : Mv S c H H') {m n : Nat} {Z : Addr → Prop} {v : V} (n1 : ¬ Z S) (n2 : ¬ Z c) (h : Gv m n Z H v) : Gv m n Z H' v := h.imp fun _ r => rp_mv mv n1 n2 r
section
variable {K : PySem.W.Frag} {σ : L2.St} {H : Hp} {S c : Addr} {m n : Nat} {Z : Addr → Prop} {tS tn te tl : TE} {ta : TA} {D : Ends} {tz : TS}
theorem q_asgM {i : Nat} (h : te σ H fun v H1 => tz D (σ.set i (some v)) H1) : tSeq (tAsg te (gName i)) tz D σ H := h
theorem s_asgM {i : Nat} (h : te σ H fun v H1 => D.nx (σ.set i (some v)) H1) : tAsg te (gName i) D σ H := h
theorem s_retM (h : te σ H D.rt) : tRet te D σ H := h
theorem q_asgLG {i k : Nat} (h : EvAG ta σ H (Gv m n Z) k) (hk : k ≤ 100000) (q : ∀ p vs H1, Ex H H1 → H p = none → H1 p = some (.lst vs) → vs.length = k → (∀ v ∈ vs, Gv m n Z H1 v) → tz D (σ.set i (some (.ref p))) H1) : tSeq (tAsg (tLst ta) (gName i)) tz D σ H :=
  q_asgM (h H (Ex.refl _) _ fun vs H1 e hl hv => ⟨Evl.sz_of (by omega), fun p hp => q p vs _ (e.trans (Ex.new hp)) (Evl.fresh_back e hp) upd_same hl fun v hv' => gv_ex (Ex.new hp) (hv v hv')⟩)
theorem q_asgCat {i k : Nat} {l : Addr} {xs : List V} (hx : H l = some (.lst xs)) (h1 : Ev tl σ H (.ref l)) (h : EvAG ta σ H (Gv m n Z) k) (hk : xs.length + k ≤ 100000)
    (q : ∀ p vs H1, Ex H H1 → H p = none → H1 p = some (.lst (xs ++ vs)) → vs.length = k → (∀ v ∈ vs, Gv m n Z H1 v) → tz D (σ.set i (some (.ref p))) H1) : tSeq (tAsg (tOp rCat tl (tLst ta)) (gName i)) tz D σ H :=
  q_asgM (h1 H (Ex.refl _) _ fun H1 e1 => h H1 e1 _ fun vs H2 e2 hl hv => ⟨Evl.sz_of (by omega), fun p hp => by
    refine ⟨l, p, xs, vs, rfl, rfl, Ex.new hp _ _ ((e1.trans e2) _ _ hx), upd_same, Evl.sz_of (by omega), fun p2 hp2 => ?_⟩
    have e3 := (Ex.new (o := .tup []) hp)
    refine q p2 vs _ ((e1.trans e2).trans ((Ex.new hp).trans (Ex.new hp2))) (Evl.fresh_back ((e1.trans e2).trans (Ex.new hp)) hp2) upd_same hl fun v hv' => gv_ex ((Ex.new hp).trans (Ex.new hp2)) (hv v hv')⟩)
theorem tdraw {k : Int} {Q : VK} (hS : Ev tS σ H (.ref S)) (hn : Ev tn σ H (.int k)) (st : StAt H S c) (k0 : 1 ≤ k) (k1 : k < 1073741824) (q : ∀ H' r, Mv S c H H' → 0 ≤ r → r < k → Q (.int r) H') : tCall spDraw [] E0 (tCons tS (tCons tn tNil)) σ H Q :=
  hS H (Ex.refl _) _ fun H1 e1 => hn H1 e1 _ fun H2 e2 => ⟨S, c, k, rfl, st.ex (e1.trans e2), k0, by omega, fun H' r m r0 r1 => q H' r ((Mv.ex st (e1.trans e2)).trans m) r0 r1⟩
theorem q_forDraw {j : Nat} {k : Int} {tu : TS} (hS : Ev tS σ H (.ref S)) (hn : Ev tn σ H (.int k)) (st : StAt H S c) (k0 : 1 ≤ k) (k1 : k ≤ 100000) (Pv : Nat → L2.St → Hp → Prop) (h0 : ∀ H1, Mv S c H H1 → Pv 0 σ H1)
    (hs : ∀ (i : Nat) σ' H', (i : Int) + 1 < k → Pv i σ' H' → tu { D with nx := Pv (i + 1), ct := Pv (i + 1), bk := tz D } (σ'.set j (some (.int (i : Int)))) H') (hd : ∀ (i : Nat) σ' H', (i : Int) < k → Pv i σ' H' → tz D σ' H') :
    tSeq (tFor (iRng1 (tCons (tCall spDraw [] E0 (tCons tS (tCons tn tNil))) tNil)) (gName j) tu) tz D σ H :=
  tdraw hS hn st k0 (by omega) fun H1 r mv r0 r1 => show tSeq (tFor (iRng1 (tCons (tC (.int r)) tNil)) (gName j) tu) tz D σ H1 from
    Evl.q_forR1 (Evl.ea_cons Evl.ev_c Evl.ea_nil) ⟨r0, by omega⟩ Pv (fun H2 e => h0 H2 (mv.tx e)) (fun i σ' H' hi => hs i σ' H' (by omega)) fun σ' H' p => hd r.toNat σ' H' (by omega) p
theorem t_pickL {Q : VK} {l : Addr} {xs : List V} (hx : H l = some (.lst xs)) (nl : l ≠ S ∧ l ≠ c) (h1 : Ev tl σ H (.ref l)) (hS : Ev tS σ H (.ref S)) (hn : Ev tn σ H (.int (xs.length : Int))) (st : StAt H S c) (h0 : 0 < xs.length) (hz : xs.length ≤ 100000)
    (q : ∀ H' v, Mv S c H H' → v ∈ xs → Q v H') : tOp (rIxL K) tl (tCall spDraw [] E0 (tCons tS (tCons tn tNil))) σ H Q :=
  h1 H (Ex.refl _) _ fun H1 e1 => tdraw (fun H2 e2 => hS H2 (e1.trans e2)) (fun H2 e2 => hn H2 (e1.trans e2)) (st.ex e1) (by omega) (by omega) fun H' r mv r0 r1 => by
    obtain ⟨v, hv, hm⟩ := at_mem r0 r1
    exact ⟨l, xs, r, v, rfl, rfl, Evl.sq_of (mv.fr l _ nl.1 nl.2 (e1 _ _ hx)), hv, q H' v ((Mv.ex st e1).trans mv) hm⟩
theorem t_pickT {Q : VK} {k : Nat} (h : EvAG ta σ H (Gv m n Z) k) (k0 : 0 < k) (k1 : k ≤ 100000) (hS : Ev tS σ H (.ref S)) (hn : Ev tn σ H (.int (k : Int))) (st : StAt H S c) (z1 : ¬ Z S) (z2 : ¬ Z c)
    (q : ∀ H' v, Mv S c H H' → Gv m n Z H' v → Q v H') : tOp (rIxT K) (tTup ta) (tCall spDraw [] E0 (tCons tS (tCons tn tNil))) σ H Q :=
  h H (Ex.refl _) _ fun vs H1 e1 hl hv => ⟨Evl.sz_of (by omega), fun p hp => tdraw (fun H2 e2 => hS H2 (e1.trans ((Ex.new hp).trans e2))) (fun H2 e2 => hn H2 (e1.trans ((Ex.new hp).trans e2))) (st.ex (e1.trans (Ex.new hp))) (by omega) (by omega) fun H' r mv r0 r1 => by
    obtain ⟨v, hv1, hm⟩ := at_mem r0 (by rw [hl]; exact r1)
    exact ⟨p, vs, r, v, rfl, rfl, Evl.st_of (mv.tup upd_same), hv1, q H' v ((Mv.ex st (e1.trans (Ex.new hp))).trans mv) (gv_mv mv z1 z2 (gv_ex (Ex.new hp) (hv v hm)))⟩⟩
end
section
variable {P : Program} {w : World} {K : PySem.W.Frag} {mg : Str → Option Value} {base : Heap} {C_Shape C_InvalidShape C_InvalidData C_StayError : Addr}
def spOdd : Sp := fun vs H Q _ => ∃ S c, vs = [.ref S] ∧ StAt H S c ∧ ∀ H' v, Mv S c H H' → Gv 16 10 (fun b => H b = none) H' v → Q v H'
theorem ok__law_odd (T : Txt K mg C_Shape C_InvalidShape C_InvalidData C_StayError) (R : Prg K mg C_Shape C_InvalidShape C_InvalidData C_StayError) : ∃ f fd, Fn P w K mg base "_law_odd" 3 ["_law_stream_here"] spOdd f fd := by
  obtain ⟨_, _, G__law_draw⟩ := ok__law_draw (P := P) (w := w) (base := base) T R
  obtain ⟨f, fd, at_, F, kp⟩ := R._law_odd
  refine ⟨f, fd, F.ok sc__law_odd (fun vs H Q E h => ?_) (fun cdv A outer s H vs Q E hr h => ?_), at_, kp, F.binds (fun _ _ _ _ _ _ us hl => match us, hl with | [_], _ => rfl)⟩
  · obtain ⟨S, c, rfl, _⟩ := h; rfl
  · obtain ⟨S, c, rfl, st, k⟩ := h
    refine ⟨_, (pss_cons (ps_set (i := 1) sc__law_odd.nd rfl (Or.inl rfl) (pe_lst (pa_cons pe_non (pa_cons pe_int (pa_cons pe_int (pa_cons (pe_un un_neg pe_int) (pa_cons pe_int (pa_cons pe_bl (pa_cons pe_bl (pa_cons pe_int (pa_cons pe_int (pa_cons (pe_op op_pow pe_int pe_int) (pa_cons pe_str (pa_cons pe_str (pa_cons pe_str (pa_cons pe_str (pa_cons pe_str (pa_cons pe_str pa_nil))))))))))))))))))
  (pss_cons (ps_set (i := 1) sc__law_odd.nd rfl (Or.inl rfl) (pe_op op_cat (pv 1) (pe_lst (pa_cons pe_str (pa_cons pe_str (pa_cons pe_str (pa_cons pe_str (pa_cons (pe_tup pa_nil) (pa_cons (pe_tup (pa_cons pe_str pa_nil)) (pa_cons (pe_tup (pa_cons pe_str pa_nil)) (pa_cons (pe_tup (pa_cons pe_str (pa_cons pe_str pa_nil))) (pa_cons (pe_lst pa_nil) (pa_cons (pe_lst (pa_cons pe_str pa_nil)) (pa_cons pe_dnewK (pa_cons (pe_disp (pps_cons pe_str (pe_tup (pa_cons pe_str (pa_cons pe_str pa_nil))) pps_nil) (by rfl) (by rfl) (fun z => by cases z) (by decide)) pa_nil)))))))))))))))
  (pss_cons (ps_set (i := 2) sc__law_odd.nd rfl (Or.inl rfl) (pcl G__law_draw hr (pa_cons (pv 0) (pa_cons (pe_op op_add (pe_callB (r := rLenA K) call_len (by rfl) T.len (by decide +kernel) (pa_cons (pv 1) pa_nil)) pe_int) pa_nil))))
  (pss_cons (ps_if (pt_cmpR op_lt (pv 2) (pe_callB (r := rLenA K) call_len (by rfl) T.len (by decide +kernel) (pa_cons (pv 1) pa_nil)) (nomark _)) (pss_one (ps_ret (pe_ix (r := rIxL K) ix_list (pv 1) (pv 2) (fun _ _ => rfl)))) pss_nil)
  (pss_cons (ps_set (i := 3) sc__law_odd.nd rfl (Or.inl rfl) (pe_ix (r := rIxL K) ix_list (pv 1) (pcl G__law_draw hr (pa_cons (pv 0) (pa_cons (pe_callB (r := rLenA K) call_len (by rfl) T.len (by decide +kernel) (pa_cons (pv 1) pa_nil)) pa_nil))) (fun _ _ => rfl)))
  (pss_cons (ps_for PassesOwn.never rfl (pi_range1 (by rfl) T.range (pa_cons (pcl G__law_draw hr (pa_cons (pv 0) (pa_cons pe_int pa_nil))) pa_nil)) (pg_name (i := 4) sc__law_odd.nd rfl (Or.inl rfl))
    (pss_one (ps_set (i := 3) sc__law_odd.nd rfl (Or.inl rfl) (pe_ix (r := rIxT K) ix_tup (pe_tup (pa_cons (pe_lst (pa_cons (pv 3) pa_nil)) (pa_cons (pe_tup (pa_cons (pv 3) pa_nil)) (pa_cons (pe_disp (pps_cons pe_str (pv 3) pps_nil) (by rfl) (by rfl) (fun z => by cases z) (by decide)) (pa_cons (pe_disp (pps_cons pe_str (pv 3) (pps_cons pe_str pe_dnewK pps_nil)) (by rfl) (by rfl) (fun z => by cases z) (by decide)) pa_nil))))) (pcl G__law_draw hr (pa_cons (pv 0) (pa_cons pe_int pa_nil))) (fun _ _ => rfl)))))
  (pss_one (ps_ret (pv 3))))))))), ?_⟩
    have i_ : ∀ {σ : L2.St} {H1 : Hp} {i : Int}, EvG (tC (.int i)) σ H1 (Gv 16 3 fun b => H b = none) := ep_ev Evl.ev_c gv_int
    have s_ : ∀ {σ : L2.St} {H1 : Hp} {x : Str}, x.length ≤ 16 → EvG (tC (.str x)) σ H1 (Gv 16 3 fun b => H b = none) := fun h => ep_str h
    have b_ : ∀ {σ : L2.St} {H1 : Hp} {x : Bool}, EvG (tC (.bl x)) σ H1 (Gv 16 3 fun b => H b = none) := ep_ev Evl.ev_c gv_bl
    refine q_asgLG (m := 16) (n := 3) (Z := fun b => H b = none) (ap_cons (ep_ev Evl.ev_c gv_non) (ap_cons i_ (ap_cons i_ (ap_cons (ep_ev (Evl.ev_un Evl.ev_c fun H1 e Q q => ⟨_, rfl, q H1 (Ex.refl _)⟩) gv_int) (ap_cons i_ (ap_cons b_ (ap_cons b_ (ap_cons i_ (ap_cons i_ (ap_cons (ep_ev (Evl.ev_op Evl.ev_c Evl.ev_c (Evl.rv_I ⟨by decide, by decide, by decide⟩)) gv_int) (ap_cons (s_ (by decide)) (ap_cons (s_ (by decide)) (ap_cons (s_ (by decide)) (ap_cons (s_ (by decide)) (ap_cons (s_ (by decide)) (ap_cons (s_ (by decide)) ap_nil)))))))))))))))) (by decide) fun l1 v1 H1 e1 n1 h1 len1 all1 => ?_
    have z1 : ∀ a, H1 a = none → H a = none := fun a ha => Evl.fresh_back e1 ha
    refine q_asgCat (m := 16) (n := 3) (Z := fun b => H b = none) h1 (Evl.ev_var rfl) (ap_cons (s_ (by decide)) (ap_cons (s_ (by decide)) (ap_cons (s_ (by decide)) (ap_cons (s_ (by decide)) (ap_cons (ep_tup ap_nil (by decide) (by decide)) (ap_cons (ep_tup (ap_cons (ep_up (by decide) (ep_str (n := 1) (by decide))) ap_nil) (by decide) (by decide)) (ap_cons (ep_tup (ap_cons (ep_up (by decide) (ep_str (n := 1) (by decide))) ap_nil) (by decide) (by decide)) (ap_cons (ep_tup (ap_cons (ep_up (by decide) (ep_str (n := 1) (by decide))) (ap_cons (ep_up (by decide) (ep_str (n := 1) (by decide))) ap_nil)) (by decide) (by decide)) (ap_cons (ep_lst ap_nil (by decide) (by decide) z1) (ap_cons (ep_lst (ap_cons (ep_str (n := 1) (by decide)) ap_nil) (by decide) (by decide) z1) (ap_cons (ep_dnew z1) (ap_cons (ep_d1 (by decide) (by decide) z1 fun H2 p e2 hp => ?_) ap_nil)))))))))))) (by omega) fun l2 v2 H2 e2 n2 h2 len2 all2 => ?_
    · exact ep_tup (n := 1) (ap_cons (ep_str (n := 0) (by decide)) (ap_cons (ep_str (n := 0) (by decide)) ap_nil)) (by decide) (by decide)
    · have hx : ∀ {H3 : Hp}, Mv S c H2 H3 → H3 l2 = some (.lst (v1 ++ v2)) := fun mv => mv.fr l2 _ ((st.ex e1).someS n2).1 ((st.ex e1).someS n2).2 h2
      have nl := (st.ex e1).someS n2
      have st2 := st.ex (e1.trans e2)
      have m2 : Mv S c H H2 := .ex st (e1.trans e2)
      have len : (v1 ++ v2).length = 28 := by rw [List.length_append, len1, len2]
      have hall : ∀ v ∈ v1 ++ v2, Gv 16 3 (fun b => H b = none) H2 v := fun v hv => by
        rcases List.mem_append.mp hv with hv | hv
        · exact gv_ex e2 (all1 v hv)
        · exact all2 v hv
      have zS : ¬ H S = none := fun z => (st.someS z).1 rfl
      have zc : ¬ H c = none := fun z => (st.someS z).2 rfl
      generalize v1 ++ v2 = xs at hx len hall h2
      refine q_asgM (tdraw (k := (xs.length : Int) + 1) (Evl.ev_var rfl) (Evl.ev_op (ev_lenL (Evl.ev_var rfl) (.inl (Evl.sq_of h2))) Evl.ev_c Evl.rv_I0) st2 (by omega) (by omega) fun H3 r m3 r0 r1 => ?_)
      refine Evl.q_when (b := decide (r < (xs.length : Int))) (Evl.et_test (Evl.ev_op (Evl.ev_var rfl) (ev_lenL (Evl.ev_var rfl) (.inl (Evl.sq_of (hx m3)))) Evl.rv_I0)) (fun hb H4 e4 => ?_) fun hb H4 e4 => ?_
      · obtain ⟨v, hv, hm⟩ := at_mem r0 (of_decide_eq_true hb)
        exact Evl.s_ret (Evl.ev_op (Evl.ev_var rfl) (Evl.ev_var rfl) (Evl.rv_ixL (Evl.sq_of (e4 _ _ (hx m3))) hv)) fun H5 e5 => k H5 v (m2.trans ((m3.tx e4).tx e5)) (gv_up (by decide) (Nat.le_refl _) (fun _ z => z) (gv_ex (e4.trans e5) (gv_mv m3 zS zc (hall v hm))))
      · have m4 := m3.tx e4
        refine q_asgM (t_pickL (xs := xs) (hx m4) nl (Evl.ev_var rfl) (Evl.ev_var rfl) (ev_lenL (Evl.ev_var rfl) (.inl (Evl.sq_of (hx m4)))) m4.z (by omega) (by omega) fun H5 v m5 hm => ?_)
        have m05 := m2.trans (m4.trans m5)
        refine q_forDraw (k := 7) (Evl.ev_var rfl) Evl.ev_c m05.z (by decide) (by decide) (fun i σ' H' => ∃ v o4, σ' = [some (.ref S), some (.ref l2), some (.int r), some v, o4] ∧ Mv S c H H' ∧ Gv 16 (3 + i) (fun b => H b = none) H' v) (fun H6 m6 => ⟨v, _, rfl, m05.trans m6, gv_mv (m4.trans (m5.trans m6)) zS zc (hall v hm)⟩) (fun i σ' H' hi pv => ?_) fun i σ' H' hi pv => ?_
        · obtain ⟨v, o4, rfl, m6, g⟩ := pv
          have e3i : 3 + (i + 1) = 3 + i + 1 := by omega
          have z6 : ∀ a, H' a = none → H a = none := fun a ha => m6.back ha
          refine s_asgM (t_pickT (m := 16) (n := 3 + i + 1) (Z := fun b => H b = none) (k := 4) (ap_cons (ep_lst (ap_cons (ep_ev (Evl.ev_var rfl) g) ap_nil) (by decide) (by decide) z6) (ap_cons (ep_tup (ap_cons (ep_ev (Evl.ev_var rfl) g) ap_nil) (by decide) (by decide)) (ap_cons (ep_d1 (by decide) (by decide) z6 fun H7 p e7 hp => ep_ev (Evl.ev_var rfl) (gv_ex (Ex.new hp) (gv_ne hp (gv_ex e7 g)))) (ap_cons ?_ ap_nil)))) (by decide) (by decide) (Evl.ev_var rfl) Evl.ev_c m6.z zS zc fun H8 v8 m8 g8 => ⟨v8, _, rfl, m6.trans m8, by rw [e3i]; exact g8⟩)
          have e2i : 3 + i = 2 + i + 1 := by omega
          rw [e2i] at g ⊢
          exact ep_d2 (by decide) (by decide) (by decide) (by decide) z6 (Evl.ev_var rfl) g
        · obtain ⟨v, o4, rfl, m6, g⟩ := pv
          exact Evl.s_ret (Evl.ev_var rfl) fun H7 e7 => k H7 v (m6.tx e7) (gv_up (by omega) (Nat.le_refl _) (fun _ z => z) (gv_ex e7 g))
end
end Pk

namespace Pk
open PySem PySem.Spec PyProof.Rows L2 Ssb
open Evl (Ex Ev EvT EvL EvA EvU)
theorem cut_from {xs : List V} {i : Nat} (h : i ≤ xs.length) : cutV xs (some (i : Int)) none = xs.drop i := by
  unfold cutV
  rw [HT.sIx_none, HT.sIx_nat]
  have : min i xs.length = i := by omega
  rw [this, List.take_of_length_le (by rw [List.length_drop]; omega)]
section
variable {K : PySem.W.Frag} {σ : L2.St} {H : Hp} {tl tn te ta tb : TE} {p : Addr} {xs ys : List V}
theorem el_to {i : Nat} (h : Ev tl σ H (.ref p)) (hp : H p = some (.lst xs)) (hn : Ev tn σ H (.int (i : Int))) : EvL (tSl (rSlL K) tl tNoPart (tPart tn)) σ H (xs.take i) := fun H1 e Q q =>
  h H1 e _ fun H2 e2 => hn H2 (e.trans e2) _ fun H3 e3 => ⟨_, rfl, p, xs, rfl, Evl.sq_of ((e.trans (e2.trans e3)) _ _ hp), fun l hl => q l _ (Evl.fresh_back (e2.trans e3) hl) ((e2.trans e3).trans (Ex.new hl)) (by rw [upd_same, cut_to])⟩
theorem el_from {i : Nat} (h : Ev tl σ H (.ref p)) (hp : H p = some (.lst xs)) (hn : Ev tn σ H (.int (i : Int))) (hi : i ≤ xs.length) : EvL (tSl (rSlL K) tl (tPart tn) tNoPart) σ H (xs.drop i) := fun H1 e Q q =>
  h H1 e _ fun H2 e2 => hn H2 (e.trans e2) _ fun H3 e3 => ⟨_, rfl, p, xs, rfl, Evl.sq_of ((e.trans (e2.trans e3)) _ _ hp), fun l hl => q l _ (Evl.fresh_back (e2.trans e3) hl) ((e2.trans e3).trans (Ex.new hl)) (by rw [upd_same, cut_from hi])⟩
theorem el_cat (h1 : EvL ta σ H xs) (h2 : EvL tb σ H ys) (hz : xs.length + ys.length ≤ 100000) : EvL (tOp rCat ta tb) σ H (xs ++ ys) := fun H1 e Q q =>
  h1 H1 e _ fun a H2 ha e2 hx => h2 H2 (e.trans e2) _ fun b H3 hb e3 hy => ⟨a, b, xs, ys, rfl, rfl, e3 _ _ hx, hy, Evl.sz_of hz, fun l hl => q l _ (Evl.fresh_back (e2.trans e3) hl) ((e2.trans e3).trans (Ex.new hl)) upd_same⟩
theorem el_catV (h1 : Ev ta σ H (.ref p)) (hp : H p = some (.lst xs)) (h2 : EvL tb σ H ys) (hz : xs.length + ys.length ≤ 100000) : EvL (tOp rCat ta tb) σ H (xs ++ ys) := fun H1 e Q q =>
  h1 H1 e _ fun H2 e2 => h2 H2 (e.trans e2) _ fun b H3 hb e3 hy => ⟨p, b, xs, ys, rfl, rfl, (e.trans (e2.trans e3)) _ _ hp, hy, Evl.sz_of hz, fun l hl => q l _ (Evl.fresh_back (e2.trans e3) hl) ((e2.trans e3).trans (Ex.new hl)) upd_same⟩
theorem el_list (h : Ev ta σ H (.ref p)) (hp : SqL K H p xs ∨ SqT K H p xs) : EvL (tCB (rListA K) (tCons ta tNil)) σ H xs := fun H1 e Q q =>
  h H1 e _ fun H2 e2 => ⟨p, xs, rfl, ex_q (e.trans e2) hp, fun l hl => q l _ (Evl.fresh_back e2 hl) (e2.trans (Ex.new hl)) upd_same⟩
theorem el_rev (h : EvL ta σ H xs) : EvL (tLstRev K ta) σ H xs.reverse := fun H1 e Q q =>
  h H1 e _ fun a H2 ha e2 hx => ⟨a, xs, rfl, Evl.sq_of hx, fun l hl => q l _ (Evl.fresh_back e2 hl) (e2.trans (Ex.new hl)) upd_same⟩
end
section
variable {P : Program} {w : World} {K : PySem.W.Frag} {mg : Str → Option Value} {base : Heap} {C_Shape C_InvalidShape C_InvalidData C_StayError : Addr}
def spResized : Sp := fun vs H Q _ => ∃ (S c p : Addr) (xs : List V), vs = [.ref S, .ref p] ∧ StAt H S c ∧ H p = some (.lst xs) ∧ p ≠ S ∧ p ≠ c ∧ 0 < xs.length ∧ xs.length ≤ 40000 ∧
  ∀ H' q ys, Mv S c H H' → H q = none → H' q = some (.lst ys) → ys.length ≤ xs.length + 1 → (∀ y ∈ ys, y ∈ xs) → Q (.ref q) H'
theorem ok__law_resized (T : Txt K mg C_Shape C_InvalidShape C_InvalidData C_StayError) (R : Prg K mg C_Shape C_InvalidShape C_InvalidData C_StayError) : ∃ f fd, Fn P w K mg base "_law_resized" 3 ["_law_stream_here", "_law_parts"] spResized f fd := by
  obtain ⟨_, _, G__law_draw⟩ := ok__law_draw (P := P) (w := w) (base := base) T R
  obtain ⟨f, fd, at_, F, kp⟩ := R._law_resized
  refine ⟨f, fd, F.ok sc__law_resized (fun vs H Q E h => ?_) (fun cdv A outer s H vs Q E hr h => ?_), at_, kp, F.binds (fun _ _ _ _ _ _ us hl => match us, hl with | [_, _], _ => rfl)⟩
  · obtain ⟨S, c, p, xs, rfl, _⟩ := h; rfl
  · obtain ⟨S, c, p, xs, rfl, st, hp, pS, pc, x0, xz, k⟩ := h
    refine ⟨_, (pss_cons (ps_set (i := 2) sc__law_resized.nd rfl (Or.inl rfl) (pcl G__law_draw hr (pa_cons (pv 0) (pa_cons (pe_callB (r := rLenA K) call_len (by rfl) T.len (by decide +kernel) (pa_cons (pv 1) pa_nil)) pa_nil))))
  (pss_cons (ps_set (i := 3) sc__law_resized.nd rfl (Or.inl rfl) (pcl G__law_draw hr (pa_cons (pv 0) (pa_cons pe_int pa_nil))))
  (pss_cons (ps_if (pt_cmpR op_eq (pv 3) pe_int (nomark _)) (pss_one (ps_ret (pe_op op_cat (pe_slice (r := rSlL K) sl_list (pv 1) po_none (po_some (pv 2))) (pe_slice (r := rSlL K) sl_list (pv 1) (po_some (pe_op op_add (pv 2) pe_int)) po_none)))) pss_nil)
  (pss_cons (ps_if (pt_cmpR op_eq (pv 3) pe_int (nomark _)) (pss_one (ps_ret (pe_op op_cat (pe_op op_cat (pe_slice (r := rSlL K) sl_list (pv 1) po_none (po_some (pv 2))) (pe_lst (pa_cons (pe_ix (r := rIxL K) ix_list (pv 1) (pv 2) (fun _ _ => rfl)) pa_nil))) (pe_slice (r := rSlL K) sl_list (pv 1) (po_some (pv 2)) po_none)))) pss_nil)
  (pss_cons (ps_if (pt_cmpR op_eq (pv 3) pe_int (nomark _)) (pss_one (ps_ret (pe_op op_cat (pv 1) (pe_lst (pa_cons (pe_ix (r := rIxL K) ix_list (pv 1) (pv 2) (fun _ _ => rfl)) pa_nil))))) pss_nil)
  (pss_one (ps_ret (pe_lstRev rfl (by rfl) T.list (by rfl) T.reversed (pe_callTy (r := rListA K) call_list_of (by rfl) T.list (by decide +kernel) (pa_cons (pv 1) pa_nil)))))))))), ?_⟩
    have pk : ∀ {H1 : Hp}, Mv S c H H1 → H1 p = some (.lst xs) := fun mv => mv.fr p _ pS pc hp
    refine q_asgM (tdraw (k := (xs.length : Int)) (Evl.ev_var rfl) (ev_lenL (Evl.ev_var rfl) (.inl (Evl.sq_of hp))) st (by omega) (by omega) fun H1 r m1 r0 r1 => ?_)
    obtain ⟨i, rfl⟩ := Int.eq_ofNat_of_zero_le r0
    have hi : i < xs.length := by omega
    obtain ⟨x, hx⟩ : ∃ x, xs[i]? = some x := ⟨_, List.getElem?_eq_getElem hi⟩
    have xm := List.mem_of_getElem? hx
    refine q_asgM (tdraw (k := 4) (Evl.ev_var rfl) Evl.ev_c m1.z (by decide) (by decide) fun H2 wy m2 _ _ => ?_)
    have m02 := m1.trans m2
    have fin : ∀ {Hx : Hp} (q : Addr) (H3 : Hp) (ys : List V), Ex H2 Hx → Hx q = none → Ex Hx H3 → H3 q = some (.lst ys) → ys.length ≤ xs.length + 1 → (∀ y ∈ ys, y ∈ xs) → Q (.ref q) H3 := fun q H3 ys e1 hq e2 h3 hl hm => k H3 q ys (m02.tx (e1.trans e2)) ((m02.tx e1).back hq) h3 hl hm
    have elem : ∀ {Hx : Hp}, Ex H2 Hx → EvL (tLst (tCons (tOp (rIxL K) (tVar 1) (tVar 2)) tNil)) [some (.ref S), some (.ref p), some (.int (i : Int)), some (.int wy)] Hx [x] := fun ex => Evl.el_lst (Evl.ea_cons (Evl.ev_op (Evl.ev_var rfl) (Evl.ev_var rfl) (Evl.rv_ixL (Evl.sq_of (ex _ _ (pk m02))) (atI_nat hx))) Evl.ea_nil) (by show 1 ≤ 100000; decide)
    have lt := List.length_take (i := i) (l := xs)
    have ld := List.length_drop (i := i) (l := xs)
    have ld1 := List.length_drop (i := i + 1) (l := xs)
    refine Evl.q_when (b := decide (V.int wy = V.int 0)) (Evl.et_test (Evl.ev_op (Evl.ev_var rfl) Evl.ev_c (Evl.rv_eq rfl))) (fun hb H3 e3 => ?_) fun hb H3 e3 => ?_
    · refine Evl.s_retL (el_cat (el_to (i := i) (Evl.ev_var rfl) (e3 _ _ (pk m02)) (Evl.ev_var rfl)) (el_from (i := i + 1) (Evl.ev_var rfl) (e3 _ _ (pk m02)) (Evl.ev_is (Evl.ev_op (Evl.ev_var rfl) Evl.ev_c Evl.rv_I0) (by show V.int ((i : Int) + 1) = _; congr 1)) (by omega)) (by omega)) fun q H4 hq e4 h4 => fin q H4 _ e3 hq e4 h4 (by rw [List.length_append]; omega) fun y hy => ?_
      rcases List.mem_append.mp hy with hy | hy
      · exact List.mem_of_mem_take hy
      · exact List.mem_of_mem_drop hy
    refine Evl.q_when (b := decide (V.int wy = V.int 1)) (Evl.et_test (Evl.ev_op (Evl.ev_var rfl) Evl.ev_c (Evl.rv_eq rfl))) (fun hb H4 e4 => ?_) fun hb H4 e4 => ?_
    · have e34 := e3.trans e4
      refine Evl.s_retL (el_cat (el_cat (el_to (i := i) (Evl.ev_var rfl) (e34 _ _ (pk m02)) (Evl.ev_var rfl)) (elem e34) (by rw [List.length_singleton]; omega)) (el_from (i := i) (Evl.ev_var rfl) (e34 _ _ (pk m02)) (Evl.ev_var rfl) (by omega)) (by rw [List.length_append, List.length_singleton]; omega)) fun q H5 hq e5 h5 => fin q H5 _ e34 hq e5 h5 (by rw [List.length_append, List.length_append, List.length_singleton]; omega) fun y hy => ?_
      rcases List.mem_append.mp hy with hy | hy
      · rcases List.mem_append.mp hy with hy | hy
        · exact List.mem_of_mem_take hy
        · rw [List.mem_singleton.mp hy]; exact xm
      · exact List.mem_of_mem_drop hy
    refine Evl.q_when (b := decide (V.int wy = V.int 2)) (Evl.et_test (Evl.ev_op (Evl.ev_var rfl) Evl.ev_c (Evl.rv_eq rfl))) (fun hb H5 e5 => ?_) fun hb H5 e5 => ?_
    · have e35 := e3.trans (e4.trans e5)
      refine Evl.s_retL (el_catV (Evl.ev_var rfl) (e35 _ _ (pk m02)) (elem e35) (by rw [List.length_singleton]; omega)) fun q H6 hq e6 h6 => fin q H6 _ e35 hq e6 h6 (by rw [List.length_append, List.length_singleton]; omega) fun y hy => ?_
      rcases List.mem_append.mp hy with hy | hy
      · exact hy
      · rw [List.mem_singleton.mp hy]; exact xm
    · have e35 := e3.trans (e4.trans e5)
      exact Evl.s_retL (el_rev (el_list (Evl.ev_var rfl) (.inl (Evl.sq_of (e35 _ _ (pk m02)))))) fun q H6 hq e6 h6 => fin q H6 _ e35 hq e6 h6 (by rw [List.length_reverse]; omega) fun y hy => List.mem_reverse.mp hy
end
end Pk

namespace Pk
open PySem PySem.Spec PyProof.Rows L2 Ssb
open Evl (Ex Ev EvT EvL EvA EvU)
section
variable {K : PySem.W.Frag} {σ : L2.St} {H : Hp} {S c a : Addr} {m n : Nat} {Z : Addr → Prop} {tS tn te tv tl : TE} {ta : TA} {D : Ends} {tz tu : TS} {xs ys : List V} {v : V} {es : List (Key × V)}
theorem todd {Q : VK} (hS : Ev tS σ H (.ref S)) (st : StAt H S c) (q : ∀ H' v, Mv S c H H' → Gv 16 10 (fun b => H b = none) H' v → Q v H') : tCall spOdd [] E0 (tCons tS tNil) σ H Q :=
  hS H (Ex.refl _) _ fun H1 e1 => ⟨S, c, rfl, st.ex e1, fun H' v mv g => q H' v ((Mv.ex st e1).trans mv) (gv_up (Nat.le_refl _) (Nat.le_refl _) (fun b hb => Evl.fresh_back e1 hb) g)⟩
theorem t_pickTA {Q : VK} {vs : List V} (h : EvA ta σ H vs) (k0 : 0 < vs.length) (k1 : vs.length ≤ 100000) (hS : Ev tS σ H (.ref S)) (hn : Ev tn σ H (.int (vs.length : Int))) (st : StAt H S c)
    (q : ∀ H' v, Mv S c H H' → v ∈ vs → Q v H') : tOp (rIxT K) (tTup ta) (tCall spDraw [] E0 (tCons tS (tCons tn tNil))) σ H Q :=
  h H (Ex.refl _) _ fun H1 e1 => ⟨Evl.sz_of (by omega), fun p hp => tdraw (fun H2 e2 => hS H2 (e1.trans ((Ex.new hp).trans e2))) (fun H2 e2 => hn H2 (e1.trans ((Ex.new hp).trans e2))) (st.ex (e1.trans (Ex.new hp))) (by omega) (by omega) fun H' r mv r0 r1 => by
    obtain ⟨v, hv1, hm⟩ := at_mem r0 r1
    exact ⟨p, vs, r, v, rfl, rfl, Evl.st_of (mv.tup upd_same), hv1, q H' v ((Mv.ex st (e1.trans (Ex.new hp))).trans mv) hm⟩⟩
theorem ep_ofL (h : EvL te σ H xs) (hl : xs.length ≤ m) (hz : ∀ a, H a = none → Z a) (hv : ∀ x ∈ xs, Gv m n Z H x) : EvG te σ H (Gv m (n + 1) Z) := fun H1 e Q q =>
  h H1 e _ fun p H2 hp e2 hx => q (.ref p) H2 e2 (gv_lst hx (hz p (Evl.fresh_back e hp)) hl fun x hm => gv_ex (e.trans e2) (hv x hm))
/-- v + (..) of a tuple v -/
theorem ep_catU {k : Nat} {p : Addr} (h : Ev tv σ H (.ref p)) (hp : H p = some (.tup xs)) (hx : ∀ x ∈ xs, Gv m n Z H x) (h2 : EvAG ta σ H (Gv m n Z) k) (k1 : 0 < k) (hz : xs.length + k ≤ m) (hm : m ≤ 100000) : EvG (tOp (rCatA K) tv (tTup ta)) σ H (Gv m (n + 1) Z) := fun H1 e Q q =>
  h H1 e _ fun H2 e2 => h2 H2 (e.trans e2) _ fun vs H3 e3 hl hv => ⟨Evl.sz_of (by omega), fun b hb => by
    have e4 := Ex.new (o := .tup vs) hb
    have hp4 := (e.trans (e2.trans (e3.trans e4))) _ _ hp
    refine ⟨p, b, xs, vs, rfl, rfl, Evl.st_of hp4, Evl.st_of upd_same, Evl.sz_of (by omega), fun _ => ?_, fun _ h => ?_, fun _ _ p2 hp2 => ?_⟩
    · exact q _ _ (e2.trans (e3.trans e4)) (gv_tup upd_same (by omega) fun x hx => gv_ex e4 (hv x hx))
    · rw [h] at hl; exact absurd hl (by show ¬ 0 = k; omega)
    · refine q _ _ ((e2.trans (e3.trans e4)).trans (Ex.new hp2)) (gv_tup upd_same (by rw [List.length_append]; omega) fun x hm => ?_)
      rcases List.mem_append.mp hm with hm | hm
      · exact gv_ex ((e.trans (e2.trans (e3.trans e4))).trans (Ex.new hp2)) (hx x hm)
      · exact gv_ex (e4.trans (Ex.new hp2)) (hv x hm)⟩
/-- v + [..] of a list v -/
theorem ep_catL {k : Nat} {p : Addr} (h : Ev tv σ H (.ref p)) (hp : H p = some (.lst xs)) (hx : ∀ x ∈ xs, Gv m n Z H x) (h2 : EvAG ta σ H (Gv m n Z) k) (hz : xs.length + k ≤ m) (hm : m ≤ 100000) (hzz : ∀ a, H a = none → Z a) : EvG (tOp rCat tv (tLst ta)) σ H (Gv m (n + 1) Z) := fun H1 e Q q =>
  h H1 e _ fun H2 e2 => h2 H2 (e.trans e2) _ fun vs H3 e3 hl hv => ⟨Evl.sz_of (by omega), fun b hb => by
    have e4 := Ex.new (o := .lst vs) hb
    refine ⟨p, b, xs, vs, rfl, rfl, (e.trans (e2.trans (e3.trans e4))) _ _ hp, upd_same, Evl.sz_of (by omega), fun p2 hp2 => ?_⟩
    refine q _ _ ((e2.trans (e3.trans e4)).trans (Ex.new hp2)) (gv_lst upd_same (hzz p2 (Evl.fresh_back (e.trans (e2.trans (e3.trans e4))) hp2)) (by rw [List.length_append]; omega) fun x hm => ?_)
    rcases List.mem_append.mp hm with hm | hm
    · exact gv_ex ((e.trans (e2.trans (e3.trans e4))).trans (Ex.new hp2)) (hx x hm)
    · exact gv_ex (e4.trans (Ex.new hp2)) (hv x hm)⟩
/-- tuple(v): a new tuple of a list's items, or v itself -/
theorem ep_tupOf {p : Addr} (h : Ev tv σ H (.ref p)) (hp : H p = some (.lst xs)) (hx : ∀ x ∈ xs, Gv m n Z H x) (hl : xs.length ≤ m) : EvG (tCB (rTupA K) (tCons tv tNil)) σ H (Gv m (n + 1) Z) := fun H1 e Q q =>
  h H1 e _ fun H2 e2 => ⟨p, xs, rfl, .inl ⟨Evl.sq_of ((e.trans e2) _ _ hp), fun l hl2 => q _ _ (e2.trans (Ex.new hl2)) (gv_tup upd_same hl fun x hm => gv_ex ((e.trans e2).trans (Ex.new hl2)) (hx x hm))⟩⟩
theorem q_enumD {j1 j2 : Nat} (h : Ev tv σ H (.ref a)) (ha : H a = some (.dK es)) (Pv : Addr → Nat → L2.St → Hp → Prop) (h0 : ∀ lp H1, Ex H H1 → H lp = none → H1 lp = some (.lst (es.map fun kv => kV kv.1)) → Pv lp 0 σ H1)
    (hG : ∀ lp i σ' H', Pv lp i σ' H' → H' lp = some (.lst (es.map fun kv => kV kv.1)))
    (hs : ∀ (lp : Addr) (i : Nat) σ' H' (kv : Key × V), es[i]? = some kv → Pv lp i σ' H' → ∀ H2, Ex H' H2 → tu { D with nx := Pv lp (i + 1), ct := Pv lp (i + 1), bk := tz D } ((σ'.set j1 (some (.int (i : Int)))).set j2 (some (kV kv.1))) H2)
    (hd : ∀ lp σ' H', Pv lp es.length σ' H' → tz D σ' H') :
    tSeq (tFor (iEnum K (tCons (tCB (fun xs H Q => ∃ (a : Addr) (kvs : List (Key × V)), xs = [.ref a] ∧ Rd H a (.dK kvs) ∧ ∀ p, H p = none → Q (.ref p) (upd H p (.lst (kvs.map fun kv => kV kv.1)))) (tCons tv tNil)) tNil)) (gTup K 2 (gCons (gName j1) (gCons (gName j2) gNil))) tu) tz D σ H :=
  h H (Ex.refl _) _ fun H1 e1 => ⟨a, es, rfl, .inl (e1 _ _ ha), fun lp hlp => ⟨lp, es.map fun kv => kV kv.1, rfl, Evl.sq_of upd_same, for_it walk_enum (fun i σ' H' => Pv lp i σ' H') (h0 lp _ (e1.trans (Ex.new hlp)) (Evl.fresh_back e1 hlp) upd_same) (fun i σ' H' _ p => Evl.sq_of (hG lp i σ' H' p)) (fun i x σ' H0 H' hi pv y => by
    obtain ⟨Tq, x1, y1, rfl, nT, rfl, hx1, hy1⟩ := y
    have hx1 : V.int (i : Int) = x1 := Option.some.inj hx1
    subst hx1
    have hy1 : (es.map fun kv : Key × V => kV kv.1)[i]? = some y1 := hy1
    rw [List.getElem?_map] at hy1
    cases hes : es[i]? with
    | none => rw [hes] at hy1; cases hy1
    | some kv =>
      rw [hes] at hy1
      have hy1 : kV kv.1 = y1 := Option.some.inj hy1
      subst hy1
      exact ⟨Tq, _, rfl, Evl.st_of upd_same, rfl, _, _, rfl, _, _, rfl, rfl, hs lp i σ' H0 kv hes pv _ (Ex.new nT)⟩) fun σ' H' pv => hd lp σ' H' (by rw [List.length_map] at pv; exact pv)⟩⟩
end
theorem rp_entries {H : Hp} {m k : Nat} {Z : Addr → Prop} {a : Addr} {l : List KG} {es : List (Key × V)} (okk : okK m l) (pr : Paired (fun (q : KG) (e : Key × V) => e.1 = q.1 ∧ Rp H m k (fun b => Z b ∧ b ≠ a) q.2 e.2) l es) : Ge m k Z H es := by
  refine ⟨by rw [pair_keysG pr]; exact okk.1, fun e he => ?_⟩
  obtain ⟨q, hq, h1, h2⟩ := pair_memB pr e he
  exact ⟨by rw [h1]; exact okk.2 q hq, q.2, rp_S (fun b hb => hb.1) h2⟩
end Pk

namespace Pk
open PySem PySem.Spec PyProof.Rows L2 Ssb
open Evl (Ex Ev EvT EvL EvA EvU)
section
variable {P : Program} {w : World} {K : PySem.W.Frag} {mg : Str → Option Value} {base : Heap} {C_Shape C_InvalidShape C_InvalidData C_StayError : Addr}
def spChanged : Sp := fun vs H Q _ => ∃ (S c : Addr) (v : V) (m n : Nat) (Z : Addr → Prop), vs = [.ref S, v] ∧ StAt H S c ∧ Gv m n Z H v ∧ ¬ Z S ∧ ¬ Z c ∧ 16 ≤ m ∧ m ≤ 12000 ∧
  ∀ H' v', Mv S c H H' → Gv (3 * m + 3) (n + 11) (fun b => Z b ∨ H b = none) H' v' → Q v' H'
theorem ok__law_changed (T : Txt K mg C_Shape C_InvalidShape C_InvalidData C_StayError) (R : Prg K mg C_Shape C_InvalidShape C_InvalidData C_StayError) : ∃ f fd, Fn P w K mg base "_law_changed" 5 ["_law_stream_here", "_law_value"] spChanged f fd := by
  obtain ⟨_, _, G__law_draw⟩ := ok__law_draw (P := P) (w := w) (base := base) T R
  obtain ⟨_, _, G__law_odd⟩ := ok__law_odd (P := P) (w := w) (base := base) T R
  obtain ⟨_, _, G__law_resized⟩ := ok__law_resized (P := P) (w := w) (base := base) T R
  obtain ⟨f, fd, at_, F, kp⟩ := R._law_changed
  refine ⟨f, fd, F.ok sc__law_changed (fun vs H Q E h => ?_) (fun cdv A outer s H vs Q E hr h => ?_), at_, kp, F.binds (fun _ _ _ _ _ _ us hl => match us, hl with | [_, _], _ => rfl)⟩
  · obtain ⟨S, c, v, m, n, Z, rfl, _⟩ := h; rfl
  · obtain ⟨S, c, v, m, n, Z, rfl, st, ⟨g, hg⟩, nZS, nZc, m16, mz, k⟩ := h
    refine ⟨_, (pss_cons (ps_set (i := 2) sc__law_changed.nd rfl (Or.inl rfl) (pcl G__law_draw hr (pa_cons (pv 0) (pa_cons pe_int pa_nil))))
  (pss_cons (ps_if (pt_cmpR op_eq (pv 2) pe_int (nomark _)) (pss_one (ps_ret (pcl G__law_odd hr (pa_cons (pv 0) pa_nil)))) pss_nil)
  (pss_cons (ps_if (PW.pt (pw_or (pt_val (pe_callB (r := rIsi K) call_isi (by rfl) T.isinstance (by decide +kernel) (pa_cons (pv 1) (pa_cons (pe_bltn (v := .ty "bool") (by rfl) T.bool boot_bool rfl) pa_nil)))) (pw_or1 (pt_cmpR op_isN (pv 1) pe_non (nomark _))))) (pss_one (ps_ret (pcl G__law_odd hr (pa_cons (pv 0) pa_nil)))) pss_nil)
  (pss_cons (ps_if (pt_val (pe_callB (r := rIsi K) call_isi (by rfl) T.isinstance (by decide +kernel) (pa_cons (pv 1) (pa_cons (pe_bltn (v := .ty "int") (by rfl) T.int boot_int rfl) pa_nil)))) (pss_one (ps_ret (pe_op op_add (pv 1) (pe_ix (r := rIxT K) ix_tup (pe_tup (pa_cons pe_int (pa_cons (pe_un un_neg pe_int) (pa_cons pe_int (pa_cons (pe_op op_sub (pe_un un_neg (pv 1)) pe_int) pa_nil))))) (pcl G__law_draw hr (pa_cons (pv 0) (pa_cons pe_int pa_nil))) (fun _ _ => rfl))))) pss_nil)
  (pss_cons (ps_if (pt_val (pe_callB (r := rIsi K) call_isi (by rfl) T.isinstance (by decide +kernel) (pa_cons (pv 1) (pa_cons (pe_bltn (v := .ty "str") (by rfl) T.str boot_str rfl) pa_nil)))) (pss_one (ps_ret (pe_ix (r := rIxT K) ix_tup (pe_tup (pa_cons (pe_op op_add_str (pv 1) pe_str) (pa_cons (show PE _ _ (tBM0 K _ _ _) from pe_bm0 PySem.F.plainAttrs_str PySem.F.slot_str_upper PySem.F.type_str_upper mt_upper (pv 1)) (pa_cons (pe_slice sl_str (pv 1) (po_some pe_int) po_none) (pa_cons pe_str (pa_cons (pe_op op_add_str (pv 1) pe_str) pa_nil)))))) (pcl G__law_draw hr (pa_cons (pv 0) (pa_cons pe_int pa_nil))) (fun _ _ => rfl)))) pss_nil)
  (pss_cons (ps_if (pt_val (pe_callB (r := rIsi K) call_isi (by rfl) T.isinstance (by decide +kernel) (pa_cons (pv 1) (pa_cons (pe_bltn (v := .ty "dict") (by rfl) T.dict boot_dict rfl) pa_nil)))) (pss_cons (ps_set (i := 3) sc__law_changed.nd rfl (Or.inl rfl) pe_dnewK)
  (pss_cons (ps_set (i := 4) sc__law_changed.nd rfl (Or.inl rfl) (pcl G__law_draw hr (pa_cons (pv 0) (pa_cons (pe_op op_add (pe_callB call_lenD (by rfl) T.len (by decide +kernel) (pa_cons (pv 1) pa_nil)) pe_int) pa_nil))))
  (pss_cons (ps_for PassesOwn.never rfl (pi_enum (by rfl) T.enumerate (pa_cons (pe_callTy (call_listD rfl) (by rfl) T.list (by decide +kernel) (pa_cons (pv 1) pa_nil)) pa_nil)) (show PG _ _ (gTup K 2 _) from pg_tup (n := 2) rfl (pgs_cons (pg_name (i := 5) sc__law_changed.nd rfl (Or.inl rfl)) (pgs_cons (pg_name (i := 6) sc__law_changed.nd rfl (Or.inl rfl)) pgs_nil)))
    (pss_one (ps_if (PW.pt (pw_or (pt_cmpR op_eq (pv 2) pe_int (nomark _)) (pw_or1 (pt_cmpR op_ne (pv 5) (pv 4) (nomark _))))) (pss_one (ps_dput (hu_of hr) (pv 3) (pv 6) (pe_dget (hu_of hr) (pv 1) (pv 6) (fun _ _ => rfl)) rfl)) pss_nil)))
  (pss_cons (ps_if (PW.pt (pw_or (pt_cmpR op_eq (pv 2) pe_int (nomark _)) (pw_or1 (pt_cmpR op_eq (pv 4) (pe_callB call_lenD (by rfl) T.len (by decide +kernel) (pa_cons (pv 1) pa_nil)) (nomark _))))) (pss_one (ps_dput (hu_of hr) (pv 3) (pe_ix (r := rIxT K) ix_tup (pe_tup (pa_cons pe_str (pa_cons pe_str (pa_cons pe_str (pa_cons pe_int pa_nil))))) (pcl G__law_draw hr (pa_cons (pv 0) (pa_cons pe_int pa_nil))) (fun _ _ => rfl)) (pcl G__law_odd hr (pa_cons (pv 0) pa_nil)) rfl)) pss_nil)
  (pss_one (ps_ret (pv 3))))))) pss_nil)
  (pss_cons (ps_if (PW.pt (pw_or (pt_cmpR op_eq (pe_callB (r := rLenA K) call_len (by rfl) T.len (by decide +kernel) (pa_cons (pv 1) pa_nil)) pe_int (nomark _)) (pw_or1 (pt_cmpR op_eq (pv 2) pe_int (nomark _))))) (pss_cons (ps_if (pt_val (pe_callB (r := rIsi K) call_isi (by rfl) T.isinstance (by decide +kernel) (pa_cons (pv 1) (pa_cons (pe_bltn (v := .ty "tuple") (by rfl) T.tuple boot_tuple rfl) pa_nil)))) (pss_one (ps_ret (pe_ix (r := rIxT K) ix_tup (pe_tup (pa_cons (pe_callTy (r := rListA K) call_list_of (by rfl) T.list (by decide +kernel) (pa_cons (pv 1) pa_nil)) (pa_cons (pe_op (r := rCatA K) op_catA (pv 1) (pe_tup (pa_cons pe_int pa_nil))) (pa_cons (pe_op (r := rCatA K) op_catA (pv 1) (pe_tup (pa_cons (pe_tup pa_nil) pa_nil))) pa_nil)))) (pcl G__law_draw hr (pa_cons (pv 0) (pa_cons pe_int pa_nil))) (fun _ _ => rfl)))) pss_nil)
  (pss_one (ps_ret (pe_ix (r := rIxT K) ix_tup (pe_tup (pa_cons (pe_callTy (r := rTupA K) call_tuple_of (by rfl) T.tuple (by decide +kernel) (pa_cons (pv 1) pa_nil)) (pa_cons (pe_op op_cat (pv 1) (pe_lst (pa_cons pe_int pa_nil))) (pa_cons (pe_op op_cat (pv 1) (pe_lst (pa_cons (pe_tup pa_nil) pa_nil))) pa_nil)))) (pcl G__law_draw hr (pa_cons (pv 0) (pa_cons pe_int pa_nil))) (fun _ _ => rfl))))) pss_nil)
  (pss_cons (ps_set (i := 7) sc__law_changed.nd rfl (Or.inl rfl) (pcl G__law_resized hr (pa_cons (pv 0) (pa_cons (pe_callTy (r := rListA K) call_list_of (by rfl) T.list (by decide +kernel) (pa_cons (pv 1) pa_nil)) pa_nil))))
  (pss_cons (ps_if (pt_val (pe_callB (r := rIsi K) call_isi (by rfl) T.isinstance (by decide +kernel) (pa_cons (pv 1) (pa_cons (pe_bltn (v := .ty "tuple") (by rfl) T.tuple boot_tuple rfl) pa_nil)))) (pss_one (ps_ret (pe_callTy (r := rTupA K) call_tuple_of (by rfl) T.tuple (by decide +kernel) (pa_cons (pv 7) pa_nil)))) pss_nil)
  (pss_one (ps_ret (pv 7)))))))))))), ?_⟩
    have nS : ¬ (Z S ∨ H S = none) := fun z => z.elim nZS fun z => (st.someS z).1 rfl
    have nc : ¬ (Z c ∨ H c = none) := fun z => z.elim nZc fun z => (st.someS z).2 rfl
    have zz : ∀ {H1 : Hp}, Mv S c H H1 → ∀ a, H1 a = none → Z a ∨ H a = none := fun mv a ha => .inr (mv.back ha)
    have odd : ∀ {H1 : Hp} {σ : L2.St} {D : Ends}, Mv S c H H1 → σ[0]? = some (some (V.ref S)) → (∀ H' v', Mv S c H H' → Gv (3 * m + 3) (n + 11) (fun b => Z b ∨ H b = none) H' v' → D.rt v' H') → tRet (tCall spOdd [] E0 (tCons (tVar 0) tNil)) D σ H1 := fun mv h0 q =>
      s_retM (todd (Evl.ev_var h0) mv.z fun H' v' m2 g => q H' v' (mv.trans m2) (gv_up (by omega) (by omega) (fun b hb => .inr (mv.back hb)) g))
    refine q_asgM (tdraw (k := 3) (Evl.ev_var rfl) Evl.ev_c st (by decide) (by decide) fun H1 wy m1 _ _ => ?_)
    refine Evl.q_when (b := decide (V.int wy = V.int 0)) (Evl.et_test (Evl.ev_op (Evl.ev_var rfl) Evl.ev_c (Evl.rv_eq rfl))) (fun hb H2 e2 => odd (m1.tx e2) rfl k) fun hb H2 e2 => ?_
    have m2 := m1.tx e2
    have hg2 := rp_mv m2 nZS nZc hg
    refine Evl.q_when (b := isK g "bool" || decide (v = .non)) (Evl.et_or (Evl.et_B (ev_isC (Evl.ev_var rfl) hg2 rfl)) fun _ => Evl.et_test (Evl.ev_op (Evl.ev_var rfl) Evl.ev_c rv_isN)) (fun hb H3 e3 => odd (m2.tx e3) rfl k) fun hb H3 e3 => ?_
    have m3 := m2.tx e3
    have hg3 := rp_mv m3 nZS nZc hg
    obtain ⟨n, rfl⟩ := rp_pos hg
    cases g with
    | non =>
      have e : v = .non := hg
      rw [e] at hb; simp at hb
    | bl b => rw [ki_bl_bool] at hb; cases hb
    | int i =>
      have e : v = .int i := hg
      subst e
      refine Evl.q_when (b := true) (Evl.et_B (ev_isC (Evl.ev_var rfl) hg3 ki_int_int)) (fun _ H4 e4 => ?_) fun h => nomatch h
      refine s_retM ⟨_, rfl, t_pickTA (vs := [.int 1, .int (-1), .int 1000001, .int (-i - 1)]) (Evl.ea_cons Evl.ev_c (Evl.ea_cons (Evl.ev_un Evl.ev_c Evl.ru_neg) (Evl.ea_cons Evl.ev_c (Evl.ea_cons (Evl.ev_op (Evl.ev_un (Evl.ev_var rfl) Evl.ru_neg) Evl.ev_c Evl.rv_I0) Evl.ea_nil)))) (by show 0 < 4; decide) (by show 4 ≤ 100000; decide) (Evl.ev_var rfl) Evl.ev_c (m3.tx e4).z fun H5 x m5 hx => ?_⟩
      obtain ⟨j, rfl⟩ : ∃ j, x = .int j := by
        simp only [List.mem_cons, List.not_mem_nil, or_false] at hx
        rcases hx with h | h | h | h <;> exact ⟨_, h⟩
      exact ⟨i, j, rfl, rfl, k H5 _ ((m3.tx e4).trans m5) gv_int⟩
    | str x =>
      obtain ⟨e, xl⟩ : v = .str x ∧ x.length ≤ m := hg
      subst e
      refine Evl.q_when (b := false) (Evl.et_B (ev_isC (Evl.ev_var rfl) hg3 ki_str_int)) (fun h => nomatch h) fun _ H4 e4 => ?_
      have m4 := m3.tx e4
      refine Evl.q_when (b := true) (Evl.et_B (ev_isC (Evl.ev_var rfl) (rp_ex e4 hg3) ki_str_str)) (fun _ H5 e5 => ?_) fun h => nomatch h
      have m5 := m4.tx e5
      have up := PyProof.Rows.len_upper x
      have ap : ∀ (y : Str), y.length ≤ 1 → ∀ {Hx : Hp}, EvG (tOp (fun x y H Q => ∃ i j, x = .str i ∧ y = .str j ∧ i.length + j.length ≤ sizeLine ∧ Q (.str (i ++ j)) H) (tVar 1) (tC (.str y))) [some (.ref S), some (.str x), some (.int wy), none, none, none, none, none] Hx (Gv (3 * m + 3) (n + 1) fun b => Z b ∨ H b = none) := fun y hy Hx =>
        ep_ev (Evl.ev_op (z := .str (x ++ y)) (Evl.ev_var rfl) Evl.ev_c fun H1 e Q q => ⟨x, y, rfl, rfl, Evl.sz_of (by omega), q H1 (Ex.refl _)⟩) (gv_str (by rw [PySem.Str.length_append]; omega))
      refine s_retM (t_pickT (m := 3 * m + 3) (n := n + 1) (Z := fun b => Z b ∨ H b = none) (k := 5) (ap_cons (ap _ (by decide)) (ap_cons (ep_ev (v := .str (Txt.upper x)) (fun H1 e Q q => ⟨_, rfl, rfl, x, rfl, rfl, by omega, q H1 (Ex.refl _)⟩) (gv_str (by omega))) (ap_cons (ep_ev (v := .str (cutS x (some 1) none)) (fun H1 e Q q => ⟨_, rfl, _, rfl, x, rfl, Evl.sz_of (by omega), q H1 (Ex.refl _)⟩) (gv_str (by have := cutS_length x (some 1) none; omega))) (ap_cons (ep_ev Evl.ev_c (gv_str (by show 1 ≤ _; omega))) (ap_cons (ap _ (by decide)) ap_nil))))) (by decide) (by decide) (Evl.ev_var rfl) Evl.ev_c m5.z nS nc fun H6 v6 m6 g6 => k H6 v6 (m5.trans m6) (gv_up (by omega) (Nat.le_refl _) (fun _ z => z) g6))
    | dic l =>
      obtain ⟨n', a, es, en, rfl, Za, ha, hl, le, okk, ekk, pr⟩ := rp_dic hg
      obtain rfl : n = n' := by omega
      have aS : a ≠ S := fun e => nZS (e ▸ Za)
      have ac : a ≠ c := fun e => nZc (e ▸ Za)
      have hak : ∀ {H1 : Hp}, Mv S c H H1 → H1 a = some (.dK es) := fun mv => mv.fr a _ aS ac ha
      have ge : Ge m n Z H es := rp_entries okk pr
      refine Evl.q_when (b := false) (Evl.et_B (ev_isC (Evl.ev_var rfl) hg3 ki_dic_int)) (fun h => nomatch h) fun _ H4 e4 => ?_
      refine Evl.q_when (b := false) (Evl.et_B (ev_isC (Evl.ev_var rfl) (rp_ex e4 hg3) ki_dic_str)) (fun h => nomatch h) fun _ H5 e5 => ?_
      refine Evl.q_when (b := true) (Evl.et_B (ev_isC (Evl.ev_var rfl) (rp_ex (e4.trans e5) hg3) ki_dic_dict)) (fun _ H6 e6 => ?_) fun h => nomatch h
      have m6 := m3.tx (e4.trans (e5.trans e6))
      refine q_asgM fun p hp => ?_
      have pH : H p = none := m6.back hp
      have pS := m6.z.someS hp
      have m7 := m6.tx (Ex.new (o := .dK []) hp)
      refine q_asgM (tdraw (k := (es.length : Int) + 1) (Evl.ev_var rfl) (Evl.ev_op (ev_lenK (Evl.ev_var rfl) (hak m7)) Evl.ev_c Evl.rv_I0) m7.z (by omega) (by omega) fun H8 r m8 r0 r1 => ?_)
      have p8 : H8 p = some (.dK []) := m8.fr p _ pS.1 pS.2 upd_same
      have m08 := m7.trans m8
      have put : ∀ {Hx : Hp} {es2 : List (Key × V)} {key : Key} {x : V}, Hx p = some (.dK es2) → Ge (3 * m + 3) (n + 10) (fun b => (Z b ∨ H b = none) ∧ b ≠ p) Hx es2 → kLen key ≤ 3 * m + 3 → Gv (3 * m + 3) (n + 10) (fun b => (Z b ∨ H b = none) ∧ b ≠ p) Hx x →
          Ge (3 * m + 3) (n + 10) (fun b => (Z b ∨ H b = none) ∧ b ≠ p) (upd Hx p (.dK (putK es2 key x))) (putK es2 key x) ∧ (putK es2 key x).length ≤ es2.length + 1 := fun hx g2 hk gx => by
        obtain ⟨g3, l3⟩ := ge_put g2 hk gx
        exact ⟨ge_imp g3 (fun _ h => gv_upd hx (fun _ z => nomatch z) (fun b z => z.2) h) (Nat.le_refl _), l3⟩
      refine q_enumD (a := a) (es := es) (Evl.ev_var rfl) (hak m08) (fun lp i σ' H' => ∃ (o5 o6 : Option V) (es2 : List (Key × V)), σ' = [some (.ref S), some (.ref a), some (.int wy), some (.ref p), some (.int r), o5, o6, none] ∧ Mv S c H H' ∧ H' lp = some (.lst (es.map fun kv => kV kv.1)) ∧ lp ≠ p ∧ H' p = some (.dK es2) ∧ Ge (3 * m + 3) (n + 10) (fun b => (Z b ∨ H b = none) ∧ b ≠ p) H' es2 ∧ es2.length ≤ i)
        (fun lp H9 e9 hlp hl9 => ⟨_, _, [], rfl, m08.tx e9, hl9, (fun z => by rw [z, p8] at hlp; cases hlp), e9 _ _ p8, ⟨List.nodup_nil, fun e he => nomatch he⟩, Nat.le_refl _⟩) (fun lp i σ' H' ⟨_, _, _, _, _, h, _⟩ => h) (fun lp i σ' H' kv hkv pv H9 e9 => ?_) fun lp σ' H' pv => ?_
      · obtain ⟨o5, o6, es2, rfl, m9, hlp, nlp, hp9, g9, l9⟩ := pv
        obtain ⟨key, x⟩ := kv
        have il : i < es.length := (List.getElem?_eq_some_iff.mp hkv).1
        have kvm := List.mem_of_getElem? hkv
        refine Evl.s_when (b := decide (V.int wy = V.int 2) || !decide (V.int (i : Int) = V.int r)) (Evl.et_or (Evl.et_test (Evl.ev_op (Evl.ev_var rfl) Evl.ev_c (Evl.rv_eq rfl))) fun _ => Evl.et_test (Evl.ev_op (Evl.ev_var rfl) (Evl.ev_var rfl) (Evl.rv_ne rfl))) (fun hb2 H10 e10 => ?_) fun hb2 H10 e10 => ?_
        · have m10 := m9.tx (e9.trans e10)
          have hp10 := (e9.trans e10) _ _ hp9
          have gx : Gv (3 * m + 3) (n + 10) (fun b => (Z b ∨ H b = none) ∧ b ≠ p) H10 x := gv_up (by omega) (by omega) (fun b hb => ⟨.inl hb.1, hb.2⟩) (gv_mv (Z := fun b => Z b ∧ b ≠ p) m10 (fun z => nZS z.1) (fun z => nZc z.1) (gv_ne pH (ge.2 _ kvm).2))
          obtain ⟨g11, l11⟩ := put hp10 (ge_imp g9 (fun _ h => gv_ex (e9.trans e10) h) (Nat.le_refl _)) (key := key) (Nat.le_trans (ge.2 _ kvm).1 (by omega)) gx
          exact ⟨_, rfl, _, rfl, a, x, rfl, .inl ⟨es, key, .inl (hak m10), rfl, (valV_atK ge.1 hkv).symm⟩, _, rfl, _, rfl, p, _, rfl, .inl ⟨es2, key, hp10, rfl, Evl.sz_lt (by omega), rfl⟩, _, _, _, rfl, m10.mut pH, by rw [upd_ne nlp]; exact (e9.trans e10) _ _ hlp, nlp, upd_same, g11, by omega⟩
        · exact ⟨_, _, es2, rfl, m9.tx (e9.trans e10), (e9.trans e10) _ _ hlp, nlp, (e9.trans e10) _ _ hp9, ge_imp g9 (fun _ h => gv_ex (e9.trans e10) h) (Nat.le_refl _), by omega⟩
      · obtain ⟨o5, o6, es2, rfl, m9, hlp, nlp, hp9, g9, l9⟩ := pv
        have fin : ∀ {Hx : Hp} {es3 : List (Key × V)}, Mv S c H Hx → Hx p = some (.dK es3) → Ge (3 * m + 3) (n + 10) (fun b => (Z b ∨ H b = none) ∧ b ≠ p) Hx es3 → es3.length ≤ es.length + 1 → ∀ H11, Ex Hx H11 → Q (.ref p) H11 := fun mx hx gx lx H11 e11 =>
          k H11 _ (mx.tx e11) (gv_up (by omega) (Nat.le_refl _) (fun _ z => z) (gv_dic (e11 _ _ hx) (.inr pH) (by omega) (ge_imp gx (fun _ h => gv_ex e11 h) (Nat.le_refl _))))
        refine Evl.q_when (b := decide (V.int wy = V.int 2) || decide (V.int r = V.int (es.length : Int))) (Evl.et_or (Evl.et_test (Evl.ev_op (Evl.ev_var rfl) Evl.ev_c (Evl.rv_eq rfl))) fun _ => Evl.et_test (Evl.ev_op (Evl.ev_var rfl) (ev_lenK (Evl.ev_var rfl) (hak m9)) (Evl.rv_eq rfl))) (fun hb2 H10 e10 => ?_) fun hb2 H10 e10 => ?_
        · have m10 := m9.tx e10
          refine todd (Evl.ev_var rfl) m10.z fun H11 y m11 gy => ?_
          refine ⟨_, rfl, t_pickTA (vs := [.str "more", .str "zz", .str "a", .int 7]) (Evl.ea_cons Evl.ev_c (Evl.ea_cons Evl.ev_c (Evl.ea_cons Evl.ev_c (Evl.ea_cons Evl.ev_c Evl.ea_nil)))) (by show 0 < 4; decide) (by show 4 ≤ 100000; decide) (Evl.ev_var rfl) Evl.ev_c m11.z fun H12 x m12 hx => ?_⟩
          obtain ⟨key, rfl, kl⟩ : ∃ key : Key, x = kV key ∧ kLen key ≤ 4 := by
            simp only [List.mem_cons, List.not_mem_nil, or_false] at hx
            rcases hx with h | h | h | h
            · exact ⟨Sum.inr "more", h, by decide⟩
            · exact ⟨Sum.inr "zz", h, by decide⟩
            · exact ⟨Sum.inr "a", h, by decide⟩
            · exact ⟨Sum.inl 7, h, by decide⟩
          have m112 := m11.trans m12
          have hp10 := e10 _ _ hp9
          have hp12 := m112.fr p _ pS.1 pS.2 hp10
          have g12 : Ge (3 * m + 3) (n + 10) (fun b => (Z b ∨ H b = none) ∧ b ≠ p) H12 es2 := ge_imp g9 (fun _ h => gv_mv m112 (fun z => nS z.1) (fun z => nc z.1) (gv_ex e10 h)) (Nat.le_refl _)
          have gy12 : Gv (3 * m + 3) (n + 10) (fun b => (Z b ∨ H b = none) ∧ b ≠ p) H12 y := by
            refine gv_mv m12 (fun z => nS z.1) (fun z => nc z.1) (gv_up (by omega) (by omega) (fun b hb => ⟨.inr (m10.back hb), fun z => ?_⟩) gy)
            rw [z, hp10] at hb; cases hb
          obtain ⟨g13, l13⟩ := put hp12 g12 (key := key) (by omega) gy12
          refine ⟨p, _, rfl, .inl ⟨es2, key, hp12, rfl, Evl.sz_lt (by omega), rfl⟩, ?_⟩
          exact Evl.s_ret (Evl.ev_var rfl) fun H14 e14 => fin ((m10.trans m112).mut pH) upd_same g13 (by omega) H14 e14
        · exact Evl.s_ret (Evl.ev_var rfl) fun H11 e11 => fin m9 hp9 g9 (by omega) H11 (e10.trans e11)
    | lst l =>
      obtain ⟨a, xs, rfl, Za, ha, hl, pr⟩ := hg
      have aS : a ≠ S := fun e => nZS (e ▸ Za)
      have ac : a ≠ c := fun e => nZc (e ▸ Za)
      have hak : ∀ {H1 : Hp}, Mv S c H H1 → H1 a = some (.lst xs) := fun mv => mv.fr a _ aS ac ha
      have lx := pair_len pr
      have hx : ∀ {H1 : Hp}, Mv S c H H1 → ∀ x ∈ xs, Gv (3 * m + 3) (n + 1) (fun b => Z b ∨ H b = none) H1 x := fun mv x hm => by
        obtain ⟨d, _, r⟩ := pair_memB pr x hm
        exact gv_up (by omega) (by omega) (fun b hb => .inl hb) (gv_mv mv nZS nZc ⟨d, r⟩)
      refine Evl.q_when (b := false) (Evl.et_B (ev_isC (Evl.ev_var rfl) hg3 ki_lst_int)) (fun h => nomatch h) fun _ H4 e4 => ?_
      refine Evl.q_when (b := false) (Evl.et_B (ev_isC (Evl.ev_var rfl) (rp_ex e4 hg3) ki_lst_str)) (fun h => nomatch h) fun _ H5 e5 => ?_
      refine Evl.q_when (b := false) (Evl.et_B (ev_isC (Evl.ev_var rfl) (rp_ex (e4.trans e5) hg3) ki_lst_dict)) (fun h => nomatch h) fun _ H6 e6 => ?_
      have e36 := e4.trans (e5.trans e6)
      have m6 := m3.tx e36
      refine Evl.q_when (b := decide (V.int (xs.length : Int) = V.int 0) || decide (V.int wy = V.int 2)) (Evl.et_or (Evl.et_test (Evl.ev_op (ev_lenL (Evl.ev_var rfl) (.inl (Evl.sq_of (hak m6)))) Evl.ev_c (Evl.rv_eq rfl))) fun _ => Evl.et_test (Evl.ev_op (Evl.ev_var rfl) Evl.ev_c (Evl.rv_eq rfl))) (fun hb2 H7 e7 => ?_) fun hb2 H7 e7 => ?_
      · refine Evl.q_when (b := false) (Evl.et_B (ev_isC (Evl.ev_var rfl) (rp_ex (e36.trans e7) hg3) ki_lst_tuple)) (fun h => nomatch h) fun _ H8 e8 => ?_
        have m8 := m6.tx (e7.trans e8)
        exact s_retM (t_pickT (m := 3 * m + 3) (n := n + 2) (Z := fun b => Z b ∨ H b = none) (k := 3) (ap_cons (ep_tupOf (Evl.ev_var rfl) (hak m8) (hx m8) (by omega)) (ap_cons (ep_catL (Evl.ev_var rfl) (hak m8) (hx m8) (ap_cons (ep_ev Evl.ev_c gv_int) ap_nil) (by omega) (by omega) (zz m8)) (ap_cons (ep_catL (Evl.ev_var rfl) (hak m8) (hx m8) (ap_cons (ep_tup ap_nil (by omega) (by omega)) ap_nil) (by omega) (by omega) (zz m8)) ap_nil))) (by decide) (by decide) (Evl.ev_var rfl) Evl.ev_c m8.z nS nc fun H9 v9 m9 g9 => k H9 v9 (m8.trans m9) (gv_up (by omega) (Nat.le_refl _) (fun _ z => z) g9))
      · have m7 := m6.tx e7
        have x0 : 0 < xs.length := by
          cases c0 : xs.length with
          | zero => rw [c0] at hb2; simp at hb2
          | succ t => omega
        refine q_asgM ⟨_, rfl, el_list (Evl.ev_var rfl) (.inl (Evl.sq_of (hak m7))) _ (Ex.refl _) _ fun q H8 hq e8 hq8 => ?_⟩
        have m8 := m7.tx e8
        have qS := m7.z.someS hq
        refine ⟨S, c, q, xs, rfl, m8.z, hq8, qS.1, qS.2, x0, by omega, fun H9 p ys m9 hp9 hp l9 sub => ?_⟩
        have m09 := m8.trans m9
        refine Evl.q_when (b := false) (Evl.et_B (ev_isC (Evl.ev_var rfl) (rp_mv ((Mv.ex m3.z (e36.trans (e7.trans e8))).trans m9) nZS nZc hg3) ki_lst_tuple)) (fun h => nomatch h) fun _ H10 e10 => ?_
        exact Evl.s_ret (Evl.ev_var rfl) fun H11 e11 => k H11 _ (m09.tx (e10.trans e11)) (gv_up (by omega) (Nat.le_refl _) (fun _ z => z) (gv_lst ((e10.trans e11) _ _ hp) (.inr (m8.back hp9)) (by omega) fun y hy => hx (m09.tx (e10.trans e11)) y (sub y hy)))
    | tup l =>
      obtain ⟨a, xs, rfl, ha, hl, pr⟩ := hg
      have hak : ∀ {H1 : Hp}, Mv S c H H1 → H1 a = some (.tup xs) := fun mv => mv.tup ha
      have lx := pair_len pr
      have hx : ∀ {H1 : Hp}, Mv S c H H1 → ∀ x ∈ xs, Gv (3 * m + 3) (n + 1) (fun b => Z b ∨ H b = none) H1 x := fun mv x hm => by
        obtain ⟨d, _, r⟩ := pair_memB pr x hm
        exact gv_up (by omega) (by omega) (fun b hb => .inl hb) (gv_mv mv nZS nZc ⟨d, r⟩)
      refine Evl.q_when (b := false) (Evl.et_B (ev_isC (Evl.ev_var rfl) hg3 ki_tup_int)) (fun h => nomatch h) fun _ H4 e4 => ?_
      refine Evl.q_when (b := false) (Evl.et_B (ev_isC (Evl.ev_var rfl) (rp_ex e4 hg3) ki_tup_str)) (fun h => nomatch h) fun _ H5 e5 => ?_
      refine Evl.q_when (b := false) (Evl.et_B (ev_isC (Evl.ev_var rfl) (rp_ex (e4.trans e5) hg3) ki_tup_dict)) (fun h => nomatch h) fun _ H6 e6 => ?_
      have e36 := e4.trans (e5.trans e6)
      have m6 := m3.tx e36
      refine Evl.q_when (b := decide (V.int (xs.length : Int) = V.int 0) || decide (V.int wy = V.int 2)) (Evl.et_or (Evl.et_test (Evl.ev_op (ev_lenL (Evl.ev_var rfl) (.inr (Evl.st_of (hak m6)))) Evl.ev_c (Evl.rv_eq rfl))) fun _ => Evl.et_test (Evl.ev_op (Evl.ev_var rfl) Evl.ev_c (Evl.rv_eq rfl))) (fun hb2 H7 e7 => ?_) fun hb2 H7 e7 => ?_
      · refine Evl.q_when (b := true) (Evl.et_B (ev_isC (Evl.ev_var rfl) (rp_ex (e36.trans e7) hg3) ki_tup_tuple)) (fun _ H8 e8 => ?_) fun h => nomatch h
        have m8 := m6.tx (e7.trans e8)
        exact s_retM (t_pickT (m := 3 * m + 3) (n := n + 2) (Z := fun b => Z b ∨ H b = none) (k := 3) (ap_cons (ep_ofL (el_list (Evl.ev_var rfl) (.inr (Evl.st_of (hak m8)))) (by omega) (zz m8) (hx m8)) (ap_cons (ep_catU (Evl.ev_var rfl) (hak m8) (hx m8) (ap_cons (ep_ev Evl.ev_c gv_int) ap_nil) (by decide) (by omega) (by omega)) (ap_cons (ep_catU (Evl.ev_var rfl) (hak m8) (hx m8) (ap_cons (ep_tup ap_nil (by omega) (by omega)) ap_nil) (by decide) (by omega) (by omega)) ap_nil))) (by decide) (by decide) (Evl.ev_var rfl) Evl.ev_c m8.z nS nc fun H9 v9 m9 g9 => k H9 v9 (m8.trans m9) (gv_up (by omega) (Nat.le_refl _) (fun _ z => z) g9))
      · have m7 := m6.tx e7
        have x0 : 0 < xs.length := by
          cases c0 : xs.length with
          | zero => rw [c0] at hb2; simp at hb2
          | succ t => omega
        refine q_asgM ⟨_, rfl, el_list (Evl.ev_var rfl) (.inr (Evl.st_of (hak m7))) _ (Ex.refl _) _ fun q H8 hq e8 hq8 => ?_⟩
        have m8 := m7.tx e8
        have qS := m7.z.someS hq
        refine ⟨S, c, q, xs, rfl, m8.z, hq8, qS.1, qS.2, x0, by omega, fun H9 p ys m9 hp9 hp l9 sub => ?_⟩
        have m09 := m8.trans m9
        refine Evl.q_when (b := true) (Evl.et_B (ev_isC (Evl.ev_var rfl) (rp_mv ((Mv.ex m3.z (e36.trans (e7.trans e8))).trans m9) nZS nZc hg3) ki_tup_tuple)) (fun _ H10 e10 => ?_) fun h => nomatch h
        exact s_retM (ep_tupOf (m := 3 * m + 3) (n := n + 1) (Z := fun b => Z b ∨ H b = none) (Evl.ev_var rfl) (e10 _ _ hp) (fun y hy => hx (m09.tx e10) y (sub y hy)) (by omega) _ (Ex.refl _) _ fun v11 H11 e11 g11 => k H11 v11 (m09.tx (e10.trans e11)) (gv_up (by omega) (Nat.le_refl _) (fun _ z => z) g11))
end
end Pk

namespace Pk
open PySem PySem.Spec PyProof.Rows L2 Ssb
open Evl (Ex Ev EvT EvL EvA EvU)
/-- len of a list, a tuple or a dict -/
def rLenM (K : PySem.W.Frag) : List V → Hp → VK → Prop := fun xs H Q => rLenA K xs H Q ∨ ∃ (a : Addr) (kvs : List (Key × V)), xs = [V.ref a] ∧ H a = some (.dK kvs) ∧ Q (.int kvs.length) H
theorem callLenM {X : Cx} : CallR X (.builtin "len") (rLenM X.K) := CallR.or call_len call_lenD
section
variable {K : PySem.W.Frag} {σ : L2.St} {H : Hp} {S c a : Addr} {m n : Nat} {Z : Addr → Prop} {tS tn te tv tl : TE} {ta : TA} {D : Ends} {tz tu : TS} {xs ys : List V} {v : V} {es : List (Key × V)} {tA tB2 : TT}
theorem ev_lenM1 (h : Ev te σ H (.ref a)) (hx : SqL K H a xs ∨ SqT K H a xs) : Ev (tCB (rLenM K) (tCons te tNil)) σ H (.int (xs.length : Int)) := fun H1 e Q q =>
  h H1 e _ fun H2 e2 => .inl ⟨.ref a, xs.length, rfl, (show (∃ ys, SqL K H2 a ys ∧ xs.length = ys.length) ∨ ∃ ys, SqT K H2 a ys ∧ xs.length = ys.length from (ex_q (e.trans e2) hx).imp (fun z => ⟨xs, z, rfl⟩) fun z => ⟨xs, z, rfl⟩), q H2 e2⟩
theorem ev_lenM2 (h : Ev te σ H (.ref a)) (hx : H a = some (.dK es)) : Ev (tCB (rLenM K) (tCons te tNil)) σ H (.int (es.length : Int)) := fun H1 e Q q =>
  h H1 e _ fun H2 e2 => .inr ⟨a, es, rfl, (e.trans e2) _ _ hx, q H2 e2⟩
theorem ev_isi3 {n1 n2 n3 : String} {x : V} {ty : Value} {b : Bool} (h : Ev te σ H x) (hty : ∀ H1, Ex H H1 → TyX K H1 x ty) (hk : PySem.W.kitAny K ty [.type n1, .type n2, .type n3] = some b) :
    Ev (tCB (rIsiT K) (tCons te (tCons (tTup (tCons (tC (.ty n1)) (tCons (tC (.ty n2)) (tCons (tC (.ty n3)) tNil)))) tNil))) σ H (.bl b) := fun H1 e Q q =>
  h H1 e _ fun H2 e2 => ⟨(by show 3 ≤ sizeLine; decide), fun p hp => ⟨x, p, [.ty n1, .ty n2, .ty n3], ty, [.type n1, .type n2, .type n3], b, rfl, upd_same, .cons (.ty n1) (.cons (.ty n2) (.cons (.ty n3) .nil)), hty _ ((e.trans e2).trans (Ex.new hp)), hk, q _ (e2.trans (Ex.new hp))⟩⟩
theorem kit_three (g : G) : PySem.W.kitAny K (.type (gT g)) [.type "list", .type "tuple", .type "dict"] = some (isLstG g || (isTupG g || (dicG g).isSome)) := by
  have h1 := kit_some g (T := "list") (by decide)
  have h2 := kit_some g (T := "tuple") (by decide)
  have h3 := kit_some g (T := "dict") (by decide)
  rw [isK_lst] at h1
  rw [isK_tup] at h2
  rw [isK_dic] at h3
  cases g with
  | lst l => exact kitAny_cons (b := true) (kit_ty h1) (fun h => nomatch h) fun _ => rfl
  | tup l => exact kitAny_cons (b := false) (kit_ty h1) (fun _ => kitAny_cons (b := true) (kit_ty h2) (fun h => nomatch h) fun _ => rfl) fun h => nomatch h
  | dic l => exact kitAny_cons (b := false) (kit_ty h1) (fun _ => kitAny_cons (b := false) (kit_ty h2) (fun _ => kitAny_cons (b := true) (kit_ty h3) (fun h => nomatch h) fun _ => rfl) fun h => nomatch h) fun h => nomatch h
  | non => exact kitAny_cons (b := false) (kit_ty h1) (fun _ => kitAny_cons (b := false) (kit_ty h2) (fun _ => kitAny_cons (b := false) (kit_ty h3) (fun _ => rfl) fun h => nomatch h) fun h => nomatch h) fun h => nomatch h
  | bl b => exact kitAny_cons (b := false) (kit_ty h1) (fun _ => kitAny_cons (b := false) (kit_ty h2) (fun _ => kitAny_cons (b := false) (kit_ty h3) (fun _ => rfl) fun h => nomatch h) fun h => nomatch h) fun h => nomatch h
  | int i => exact kitAny_cons (b := false) (kit_ty h1) (fun _ => kitAny_cons (b := false) (kit_ty h2) (fun _ => kitAny_cons (b := false) (kit_ty h3) (fun _ => rfl) fun h => nomatch h) fun h => nomatch h) fun h => nomatch h
  | str x => exact kitAny_cons (b := false) (kit_ty h1) (fun _ => kitAny_cons (b := false) (kit_ty h2) (fun _ => kitAny_cons (b := false) (kit_ty h3) (fun _ => rfl) fun h => nomatch h) fun h => nomatch h) fun h => nomatch h
theorem q_orDraw {b : Bool} {k : Int} (hA : EvT tA σ H false) (hB : EvT tB2 σ H b) (hS : Ev tS σ H (.ref S)) (hn : Ev tn σ H (.int k)) (st : StAt H S c) (k0 : 1 ≤ k) (k1 : k < 1073741824)
    (h1 : ∀ H1, Mv S c H H1 → tu { D with nx := tz D } σ H1) (h2 : b = false → ∀ H1, Mv S c H H1 → tz D σ H1) :
    tSeq (tIfS (tOr tA (tOr tB2 (tTest (tOp rEq (tCall spDraw [] E0 (tCons tS (tCons tn tNil))) (tC (.int 0)))))) tu tNext) tz D σ H :=
  hA H (Ex.refl _) _ fun H1 e1 => iteF (hB H1 e1 _ fun H2 e2 => by
    have st2 := st.ex (e1.trans e2)
    have m2 := Mv.ex st (e1.trans e2)
    cases b with
    | true => exact iteT (iteT (h1 H2 m2))
    | false =>
      refine iteF (tdraw (fun H3 e3 => hS H3 ((e1.trans e2).trans e3)) (fun H3 e3 => hn H3 ((e1.trans e2).trans e3)) st2 k0 k1 fun H3 r m3 _ _ => ⟨rfl, _, rfl, ?_⟩)
      cases decide (V.int r = V.int 0) with
      | true => exact iteT (h1 H3 (m2.trans m3))
      | false => exact iteF (h2 rfl H3 (m2.trans m3)))
end
end Pk

namespace Pk
open PySem PySem.Spec PyProof.Rows L2 Ssb
open Evl (Ex Ev EvT EvL EvA EvU)
section
variable {P : Program} {w : World} {K : PySem.W.Frag} {mg : Str → Option Value} {base : Heap} {C_Shape C_InvalidShape C_InvalidData C_StayError : Addr}
theorem q_asgS {te : TE} {g : TG} {tz : TS} {D : Ends} {σ : L2.St} {H : Hp} (h : te σ H fun v H1 => g v σ H1 fun σ' H' => tz D σ' H') : tSeq (tAsg te g) tz D σ H := h
theorem tchanged {σ : L2.St} {H : Hp} {S c : Addr} {v : V} {m n : Nat} {Z : Addr → Prop} {tS tv : TE} {Q : VK} (hS : Ev tS σ H (.ref S)) (hv : Ev tv σ H v) (st : StAt H S c) (g : Gv m n Z H v) (z1 : ¬ Z S) (z2 : ¬ Z c) (m1 : 16 ≤ m) (m2 : m ≤ 12000)
    (q : ∀ H' v', Mv S c H H' → Gv (3 * m + 3) (n + 11) (fun b => Z b ∨ H b = none) H' v' → Q v' H') : tCall spChanged [] E0 (tCons tS (tCons tv tNil)) σ H Q :=
  hS H (Ex.refl _) _ fun H1 e1 => hv H1 e1 _ fun H2 e2 => ⟨S, c, v, m, n, Z, rfl, st.ex (e1.trans e2), gv_ex (e1.trans e2) g, z1, z2, m1, m2, fun H' v' mv g' => q H' v' ((Mv.ex st (e1.trans e2)).trans mv) (gv_up (Nat.le_refl _) (Nat.le_refl _) (fun b hb => hb.imp id fun z => Evl.fresh_back (e1.trans e2) z) g')⟩
def spSpoil (n : Nat) : Sp := fun vs H Q _ => ∃ (S c : Addr) (v : V) (m : Nat) (Z : Addr → Prop), vs = [.ref S, v] ∧ StAt H S c ∧ Gv m n Z H v ∧ ¬ Z S ∧ ¬ Z c ∧ 16 ≤ m ∧ m ≤ 12000 ∧
  ∀ H' v', Mv S c H H' → Gv (3 * m + 3) (n + 11) (fun b => Z b ∨ H b = none) H' v' → Q v' H'
theorem tspoil {n : Nat} {σ : L2.St} {H : Hp} {S c : Addr} {v : V} {m : Nat} {Z : Addr → Prop} {tS tv : TE} {Q : VK} (hS : Ev tS σ H (.ref S)) (hv : Ev tv σ H v) (st : StAt H S c) (g : Gv m n Z H v) (z1 : ¬ Z S) (z2 : ¬ Z c) (m1 : 16 ≤ m) (m2 : m ≤ 12000)
    (q : ∀ H' v', Mv S c H H' → Gv (3 * m + 3) (n + 11) (fun b => Z b ∨ H b = none) H' v' → Q v' H') : tCall (spSpoil n) [] E0 (tCons tS (tCons tv tNil)) σ H Q :=
  hS H (Ex.refl _) _ fun H1 e1 => hv H1 e1 _ fun H2 e2 => ⟨S, c, v, m, Z, rfl, st.ex (e1.trans e2), gv_ex (e1.trans e2) g, z1, z2, m1, m2, fun H' v' mv g' => q H' v' ((Mv.ex st (e1.trans e2)).trans mv) (gv_up (Nat.le_refl _) (Nat.le_refl _) (fun b hb => hb.imp id fun z => Evl.fresh_back (e1.trans e2) z) g')⟩
theorem ok__law_spoilA (T : Txt K mg C_Shape C_InvalidShape C_InvalidData C_StayError) (R : Prg K mg C_Shape C_InvalidShape C_InvalidData C_StayError) {f : Addr} {fd : FuncData} (at_ : mg "_law_spoil" = some (.ref f)) (F : Fun K "_law_spoil" "_law_spoil" s__law_spoil f fd) (kp : PySem.W.keepIn K (.ref f) = true) : ∀ n, Fn P w K mg base "_law_spoil" (n + 6) ["_law_stream_here", "_law_value"] (spSpoil n) f fd
  | 0 => by
    refine ⟨F.ok sc__law_spoil (fun vs H Q E h => ?_) (fun cdv A outer s H vs Q E hr h => ?_), at_, kp, F.binds (fun _ _ _ _ _ _ us hl => match us, hl with | [_, _], _ => rfl)⟩
    · obtain ⟨S, c, v, m, Z, rfl, _⟩ := h; rfl
    · obtain ⟨S, c, v, m, Z, rfl, _, ⟨g, h⟩, _⟩ := h; exact h.elim
  | n + 1 => by
    obtain ⟨_, _, G__law_draw⟩ := ok__law_draw (P := P) (w := w) (base := base) T R
    obtain ⟨_, _, G__law_changed⟩ := ok__law_changed (P := P) (w := w) (base := base) T R
    have G__law_spoil := ok__law_spoilA T R at_ F kp n
    refine ⟨F.ok sc__law_spoil (fun vs H Q E h => ?_) (fun cdv A outer s H vs Q E hr h => ?_), at_, kp, F.binds (fun _ _ _ _ _ _ us hl => match us, hl with | [_, _], _ => rfl)⟩
    · obtain ⟨S, c, v, m, Z, rfl, _⟩ := h; rfl
    · obtain ⟨S, c, v, m, Z, rfl, st, gv, nZS, nZc, m16, mz, k⟩ := h
      refine ⟨_, (pss_cons (ps_if (PW.pt (pw_or (pt_not (pt_val (pe_callB (r := rIsiT K) call_isiT (by rfl) T.isinstance (by decide +kernel) (pa_cons (pv 1) (pa_cons (pe_tup (pa_cons (pe_bltn (v := .ty "list") (by rfl) T.list boot_list rfl) (pa_cons (pe_bltn (v := .ty "tuple") (by rfl) T.tuple boot_tuple rfl) (pa_cons (pe_bltn (v := .ty "dict") (by rfl) T.dict boot_dict rfl) pa_nil)))) pa_nil))))) (pw_or (pt_cmpR op_eq (pe_callB (r := rLenM K) callLenM (by rfl) T.len (by decide +kernel) (pa_cons (pv 1) pa_nil)) pe_int (nomark _)) (pw_or1 (pt_cmpR op_eq (pcl G__law_draw hr (pa_cons (pv 0) (pa_cons pe_int pa_nil))) pe_int (nomark _)))))) (pss_one (ps_ret (pcl G__law_changed hr (pa_cons (pv 0) (pa_cons (pv 1) pa_nil))))) pss_nil)
  (pss_cons (ps_set (i := 2) sc__law_spoil.nd rfl (Or.inl rfl) (pcl G__law_draw hr (pa_cons (pv 0) (pa_cons (pe_callB (r := rLenM K) callLenM (by rfl) T.len (by decide +kernel) (pa_cons (pv 1) pa_nil)) pa_nil))))
  (pss_cons (ps_if (pt_val (pe_callB (r := rIsi K) call_isi (by rfl) T.isinstance (by decide +kernel) (pa_cons (pv 1) (pa_cons (pe_bltn (v := .ty "dict") (by rfl) T.dict boot_dict rfl) pa_nil)))) (pss_cons (ps_set (i := 3) sc__law_spoil.nd rfl (Or.inl rfl) pe_dnewK)
  (pss_cons (ps_for PassesOwn.never rfl (pi_enum (by rfl) T.enumerate (pa_cons (pe_callTy (call_listD rfl) (by rfl) T.list (by decide +kernel) (pa_cons (pv 1) pa_nil)) pa_nil)) (show PG _ _ (gTup K 2 _) from pg_tup (n := 2) rfl (pgs_cons (pg_name (i := 4) sc__law_spoil.nd rfl (Or.inl rfl)) (pgs_cons (pg_name (i := 5) sc__law_spoil.nd rfl (Or.inl rfl)) pgs_nil)))
    (pss_cons (ps_dput (hu_of hr) (pv 3) (pv 5) (pe_dget (hu_of hr) (pv 1) (pv 5) (fun _ _ => rfl)) rfl)
  (pss_one (ps_if (pt_cmpR op_eq (pv 4) (pv 2) (nomark _)) (pss_one (ps_dput (hu_of hr) (pv 3) (pv 5) (pcl G__law_spoil hr (pa_cons (pv 0) (pa_cons (pe_dget (hu_of hr) (pv 1) (pv 5) (fun _ _ => rfl)) pa_nil))) rfl)) pss_nil))))
  (pss_one (ps_ret (pv 3))))) pss_nil)
  (pss_cons (ps_set (i := 6) sc__law_spoil.nd rfl (Or.inl rfl) (pe_callTy (r := rListA K) call_list_of (by rfl) T.list (by decide +kernel) (pa_cons (pv 1) pa_nil)))
  (pss_cons (ps_asg (pcl G__law_spoil hr (pa_cons (pv 0) (pa_cons (pe_ix (r := rIxL K) ix_list (pv 6) (pv 2) (fun _ _ => rfl)) pa_nil))) (pg_sub (pv 6) (pv 2) set_list))
  (pss_cons (ps_if (pt_val (pe_callB (r := rIsi K) call_isi (by rfl) T.isinstance (by decide +kernel) (pa_cons (pv 1) (pa_cons (pe_bltn (v := .ty "tuple") (by rfl) T.tuple boot_tuple rfl) pa_nil)))) (pss_one (ps_ret (pe_callTy (r := rTupA K) call_tuple_of (by rfl) T.tuple (by decide +kernel) (pa_cons (pv 6) pa_nil)))) pss_nil)
  (pss_one (ps_ret (pv 6))))))))), ?_⟩
      have nS : ¬ (Z S ∨ H S = none) := fun z => z.elim nZS fun z => (st.someS z).1 rfl
      have nc : ¬ (Z c ∨ H c = none) := fun z => z.elim nZc fun z => (st.someS z).2 rfl
      have chg : ∀ {H1 : Hp} {σ : L2.St} {D : Ends}, Mv S c H H1 → σ[0]? = some (some (V.ref S)) → σ[1]? = some (some v) → (∀ H' v', Mv S c H H' → Gv (3 * m + 3) (n + 1 + 11) (fun b => Z b ∨ H b = none) H' v' → D.rt v' H') → tRet (tCall spChanged [] E0 (tCons (tVar 0) (tCons (tVar 1) tNil))) D σ H1 := fun mv h0 h1 q =>
        s_retM (tchanged (Evl.ev_var h0) (Evl.ev_var h1) mv.z (gv_mv mv nZS nZc gv) nZS nZc m16 mz fun H' v' m2 g => q H' v' (mv.trans m2) (gv_up (Nat.le_refl _) (Nat.le_refl _) (fun b hb => hb.imp id fun z => mv.back z) g))
      obtain ⟨g, hg⟩ := id gv
      have is3 : ∀ {b : Bool}, (isLstG g || (isTupG g || (dicG g).isSome)) = b → EvT (tNot (tB (tCB (rIsiT K) (tCons (tVar 1) (tCons (tTup (tCons (tC (.ty "list")) (tCons (tC (.ty "tuple")) (tCons (tC (.ty "dict")) tNil)))) tNil))))) [some (.ref S), some v, none, none, none, none, none] H (!b) := fun {b} e =>
        Evl.et_not (Evl.et_B (ev_isi3 (Evl.ev_var rfl) (fun H1 e1 => .base (rp_ty (rp_ex e1 hg))) (e ▸ kit_three g)))
      have leaf : (isLstG g || (isTupG g || (dicG g).isSome)) = false → ∀ {tt : TT} {tz : TS} {D : Ends}, (∀ H' v', Mv S c H H' → Gv (3 * m + 3) (n + 1 + 11) (fun b => Z b ∨ H b = none) H' v' → ({ D with nx := tz D } : Ends).rt v' H') →
          tSeq (tIfS (tOr (tNot (tB (tCB (rIsiT K) (tCons (tVar 1) (tCons (tTup (tCons (tC (.ty "list")) (tCons (tC (.ty "tuple")) (tCons (tC (.ty "dict")) tNil)))) tNil))))) tt) (tRet (tCall spChanged [] E0 (tCons (tVar 0) (tCons (tVar 1) tNil)))) tNext) tz D [some (.ref S), some v, none, none, none, none, none] H := fun e tt tz D q =>
        Evl.q_when (b := true) (Evl.et_or (a := true) (b := false) (is3 e) fun h => nomatch h) (fun _ H1 e1 => chg (.ex st e1) rfl rfl q) fun h => nomatch h
      cases g with
      | non => exact leaf rfl k
      | bl b => exact leaf rfl k
      | int i => exact leaf rfl k
      | str x => exact leaf rfl k
      | dic l =>
        obtain ⟨n', a, es, en, rfl, Za, ha, hl, le, okk, ekk, pr⟩ := rp_dic hg
        obtain rfl : n = n' := by omega
        have aS : a ≠ S := fun e => nZS (e ▸ Za)
        have ac : a ≠ c := fun e => nZc (e ▸ Za)
        have hak : ∀ {H1 : Hp}, Mv S c H H1 → H1 a = some (.dK es) := fun mv => mv.fr a _ aS ac ha
        have ge : Ge m n Z H es := rp_entries okk pr
        refine q_orDraw (b := decide (V.int (es.length : Int) = V.int 0)) (k := 6) (is3 rfl) (Evl.et_test (Evl.ev_op (ev_lenM2 (Evl.ev_var rfl) ha) Evl.ev_c (Evl.rv_eq rfl))) (Evl.ev_var rfl) Evl.ev_c st (by decide) (by decide) (fun H1 m1 => chg m1 rfl rfl k) fun hb H1 m1 => ?_
        have x0 : 0 < es.length := by
          cases c0 : es.length with
          | zero => rw [c0] at hb; simp at hb
          | succ t => omega
        refine q_asgM (tdraw (k := (es.length : Int)) (Evl.ev_var rfl) (ev_lenM2 (Evl.ev_var rfl) (hak m1)) m1.z (by omega) (by omega) fun H2 r m2 r0 r1 => ?_)
        have m02 := m1.trans m2
        refine Evl.q_when (b := true) (Evl.et_B (ev_isC (Evl.ev_var rfl) (rp_mv m02 nZS nZc hg) ki_dic_dict)) (fun _ H6 e6 => ?_) fun h => nomatch h
        have m6 := m02.tx e6
        refine q_asgM fun p hp => ?_
        have pH : H p = none := m6.back hp
        have pS := m6.z.someS hp
        have m7 := m6.tx (Ex.new (o := .dK []) hp)
        have p7 : (upd H6 p (.dK [])) p = some (.dK []) := upd_same
        generalize upd H6 p (.dK []) = H7 at m7 p7 ⊢
        have put : ∀ {Hx : Hp} {es2 : List (Key × V)} {key : Key} {x : V}, Hx p = some (.dK es2) → Ge (3 * m + 3) (n + 11) (fun b => (Z b ∨ H b = none) ∧ b ≠ p) Hx es2 → kLen key ≤ 3 * m + 3 → Gv (3 * m + 3) (n + 11) (fun b => (Z b ∨ H b = none) ∧ b ≠ p) Hx x →
            Ge (3 * m + 3) (n + 11) (fun b => (Z b ∨ H b = none) ∧ b ≠ p) (upd Hx p (.dK (putK es2 key x))) (putK es2 key x) := fun hx g2 hk gx => ge_imp (ge_put g2 hk gx).1 (fun _ h => gv_upd hx (fun _ z => nomatch z) (fun b z => z.2) h) (Nat.le_refl _)
        have pkeys : ∀ {es2 : List (Key × V)} {key : Key} {x : V}, (∀ e ∈ es2, e.1 ∈ es.map fun e : Key × V => e.1) → key ∈ (es.map fun e : Key × V => e.1) → ∀ e ∈ putK es2 key x, e.1 ∈ es.map fun e : Key × V => e.1 := fun {es2 key x} h hk e he => by
          unfold putK at he
          split at he
          · obtain ⟨e0, h0, rfl⟩ := List.mem_map.mp he
            split
            · exact h e0 h0
            · exact h e0 h0
          · rcases List.mem_append.mp he with he | he
            · exact h e he
            · rw [List.mem_singleton.mp he]; exact hk
        have few : ∀ {es2 : List (Key × V)}, (es2.map fun e : Key × V => e.1).Nodup → (∀ e ∈ es2, e.1 ∈ es.map fun e : Key × V => e.1) → es2.length ≤ es.length := fun {es2} nd h => by
          have := nd.length_le_of_subset (l₂ := es.map fun e : Key × V => e.1) fun x hx => by
            obtain ⟨e, he, rfl⟩ := List.mem_map.mp hx
            exact h e he
          simpa using this
        refine q_enumD (a := a) (es := es) (Evl.ev_var rfl) (hak m7) (fun lp i σ' H' => ∃ (o5 o6 : Option V) (es2 : List (Key × V)), σ' = [some (.ref S), some (.ref a), some (.int r), some (.ref p), o5, o6, none] ∧ Mv S c H H' ∧ H' lp = some (.lst (es.map fun kv => kV kv.1)) ∧ lp ≠ p ∧ lp ≠ S ∧ lp ≠ c ∧ H' p = some (.dK es2) ∧ Ge (3 * m + 3) (n + 11) (fun b => (Z b ∨ H b = none) ∧ b ≠ p) H' es2 ∧ ∀ e ∈ es2, e.1 ∈ es.map fun e : Key × V => e.1)
          (fun lp H9 e9 hlp hl9 => ⟨_, _, [], rfl, m7.tx e9, hl9, (fun z => by rw [z, p7] at hlp; cases hlp), (m7.z.someS hlp).1, (m7.z.someS hlp).2, e9 _ _ p7, ⟨List.nodup_nil, fun e he => nomatch he⟩, fun e he => nomatch he⟩) (fun lp i σ' H' ⟨_, _, _, _, _, h, _⟩ => h) (fun lp i σ' H' kv hkv pv H9 e9 => ?_) fun lp σ' H' pv => ?_
        · obtain ⟨o5, o6, es2, rfl, m9, hlp, nlp, lS, lc, hp9, g9, l9⟩ := pv
          obtain ⟨key, x⟩ := kv
          have kvm := List.mem_of_getElem? hkv
          have km : key ∈ es.map fun e : Key × V => e.1 := List.mem_map.mpr ⟨_, kvm, rfl⟩
          have kl : kLen key ≤ 3 * m + 3 := Nat.le_trans (ge.2 _ kvm).1 (by omega)
          have hv : valV es key = some x := valV_atK ge.1 hkv
          have m10 := m9.tx e9
          have hp10 := e9 _ _ hp9
          have gn := gv_ne pH (ge.2 _ kvm).2
          have gx : Gv (3 * m + 3) (n + 11) (fun b => (Z b ∨ H b = none) ∧ b ≠ p) H9 x := gv_up (by omega) (by omega) (fun b hb => ⟨.inl hb.1, hb.2⟩) (gv_mv (Z := fun b => Z b ∧ b ≠ p) m10 (fun z => nZS z.1) (fun z => nZc z.1) gn)
          have g11 := put hp10 (ge_imp g9 (fun _ h => gv_ex e9 h) (Nat.le_refl _)) kl gx
          have l11 : ∀ e ∈ putK es2 key x, e.1 ∈ es.map fun e : Key × V => e.1 := pkeys l9 km
          have f9 := few g9.1 l9
          refine ⟨_, rfl, _, rfl, a, x, rfl, .inl ⟨es, key, .inl (hak m10), rfl, hv.symm⟩, _, rfl, _, rfl, p, _, rfl, .inl ⟨es2, key, hp10, rfl, Evl.sz_lt (by omega), rfl⟩, ?_⟩
          have m11 : Mv S c H (upd H9 p (.dK (putK es2 key x))) := m10.mut pH
          have p11 : (upd H9 p (.dK (putK es2 key x))) p = some (.dK (putK es2 key x)) := upd_same
          have lp11 : (upd H9 p (.dK (putK es2 key x))) lp = some (.lst (es.map fun kv => kV kv.1)) := by rw [upd_ne nlp]; exact e9 _ _ hlp
          generalize upd H9 p (.dK (putK es2 key x)) = H11 at m11 p11 lp11 g11 ⊢
          generalize putK es2 key x = es3 at p11 g11 l11
          refine Evl.s_when (b := decide (V.int (i : Int) = V.int r)) (Evl.et_test (Evl.ev_op (Evl.ev_var rfl) (Evl.ev_var rfl) (Evl.rv_eq rfl))) (fun hb2 H12 e12 => ?_) fun hb2 H12 e12 => ?_
          · have m12 := m11.tx e12
            refine tspoil (Z := fun b => Z b ∧ b ≠ p) (Evl.ev_var rfl) (fun H2 e2 Q' q' => ⟨_, rfl, _, rfl, a, x, rfl, .inl ⟨es, key, .inl (hak (m12.tx e2)), rfl, hv.symm⟩, q' H2 (Ex.refl _)⟩) m12.z (gv_mv m12 (fun z => nZS z.1) (fun z => nZc z.1) gn) (fun z => nZS z.1) (fun z => nZc z.1) m16 mz fun H13 y m13 gy => ?_
            have p12 := e12 _ _ p11
            have p13 := m13.fr p _ pS.1 pS.2 p12
            have gy' : Gv (3 * m + 3) (n + 11) (fun b => (Z b ∨ H b = none) ∧ b ≠ p) H13 y := gv_up (Nat.le_refl _) (Nat.le_refl _) (fun b hb => by
              rcases hb with hb | hb
              · exact ⟨.inl hb.1, hb.2⟩
              · refine ⟨.inr (m12.back hb), fun z => ?_⟩
                rw [z, p12] at hb; cases hb) gy
            have g13 : Ge (3 * m + 3) (n + 11) (fun b => (Z b ∨ H b = none) ∧ b ≠ p) H13 es3 := ge_imp g11 (fun _ h => gv_mv m13 (fun z => nS z.1) (fun z => nc z.1) (gv_ex e12 h)) (Nat.le_refl _)
            have f13 := few g13.1 l11
            exact ⟨_, rfl, _, rfl, p, _, rfl, .inl ⟨es3, key, p13, rfl, Evl.sz_lt (by omega), rfl⟩, _, _, putK es3 key y, rfl, (m12.trans m13).mut pH, by rw [upd_ne nlp]; exact m13.fr lp _ lS lc (e12 _ _ lp11), nlp, lS, lc, upd_same, put p13 g13 kl gy', pkeys l11 km⟩
          · exact ⟨_, _, es3, rfl, m11.tx e12, e12 _ _ lp11, nlp, lS, lc, e12 _ _ p11, ge_imp g11 (fun _ h => gv_ex e12 h) (Nat.le_refl _), l11⟩
        · obtain ⟨o5, o6, es2, rfl, m9, hlp, nlp, lS, lc, hp9, g9, l9⟩ := pv
          have f9 := few g9.1 l9
          exact Evl.s_ret (Evl.ev_var rfl) fun H11 e11 => k H11 _ (m9.tx e11) (gv_up (by omega) (Nat.le_refl _) (fun _ z => z) (gv_dic (e11 _ _ hp9) (.inr pH) (by omega) (ge_imp g9 (fun _ h => gv_ex e11 h) (Nat.le_refl _))))
      | lst l =>
        obtain ⟨a, xs, rfl, Za, ha, hl, pr⟩ := hg
        have aS : a ≠ S := fun e => nZS (e ▸ Za)
        have ac : a ≠ c := fun e => nZc (e ▸ Za)
        have hak : ∀ {H1 : Hp}, Mv S c H H1 → H1 a = some (.lst xs) := fun mv => mv.fr a _ aS ac ha
        have lx := pair_len pr
        have hx : ∀ x ∈ xs, Gv m n Z H x := fun x hm => by
          obtain ⟨d, _, r⟩ := pair_memB pr x hm
          exact ⟨d, r⟩
        refine q_orDraw (b := decide (V.int (xs.length : Int) = V.int 0)) (k := 6) (is3 rfl) (Evl.et_test (Evl.ev_op (ev_lenM1 (Evl.ev_var rfl) (.inl (Evl.sq_of ha))) Evl.ev_c (Evl.rv_eq rfl))) (Evl.ev_var rfl) Evl.ev_c st (by decide) (by decide) (fun H1 m1 => chg m1 rfl rfl k) fun hb H1 m1 => ?_
        have x0 : 0 < xs.length := by
          cases c0 : xs.length with
          | zero => rw [c0] at hb; simp at hb
          | succ t => omega
        refine q_asgM (tdraw (k := (xs.length : Int)) (Evl.ev_var rfl) (ev_lenM1 (Evl.ev_var rfl) (.inl (Evl.sq_of (hak m1)))) m1.z (by omega) (by omega) fun H2 r m2 r0 r1 => ?_)
        obtain ⟨i, rfl⟩ := Int.eq_ofNat_of_zero_le r0
        have hi : i < xs.length := by omega
        obtain ⟨x, hxi⟩ : ∃ x, xs[i]? = some x := ⟨_, List.getElem?_eq_getElem hi⟩
        have m02 := m1.trans m2
        refine Evl.q_when (b := false) (Evl.et_B (ev_isC (Evl.ev_var rfl) (rp_mv m02 nZS nZc (show Rp H m (n + 1) Z (.lst l) (.ref a) from ⟨a, xs, rfl, Za, ha, hl, pr⟩)) ki_lst_dict)) (fun h => nomatch h) fun _ H6 e6 => ?_
        have m6 := m02.tx e6
        refine Evl.q_asgL (el_list (Evl.ev_var rfl) (.inl (Evl.sq_of (hak m6)))) fun q H8 hq e8 hq8 => ?_
        have m8 := m6.tx e8
        have qS := m6.z.someS hq
        have qH := m6.back hq
        have old : ∀ {Hx : Hp}, Mv S c H Hx → ∀ x ∈ xs, Gv (3 * m + 3) (n + 11) (fun b => (Z b ∨ H b = none) ∧ b ≠ q) Hx x := fun mv x hm => gv_up (by omega) (by omega) (fun b hb => ⟨.inl hb.1, hb.2⟩) (gv_mv (Z := fun b => Z b ∧ b ≠ q) mv (fun z => nZS z.1) (fun z => nZc z.1) (gv_ne qH (hx x hm)))
        refine q_asgS (tspoil (Z := fun b => Z b ∧ b ≠ q) (Evl.ev_var rfl) (Evl.ev_op (Evl.ev_var rfl) (Evl.ev_var rfl) (Evl.rv_ixL (Evl.sq_of hq8) (atI_nat hxi))) m8.z (gv_mv m8 (fun z => nZS z.1) (fun z => nZc z.1) (gv_ne qH (hx x (List.mem_of_getElem? hxi)))) (fun z => nZS z.1) (fun z => nZc z.1) m16 mz fun H9 y m9 gy => ?_)
        have m09 := m8.trans m9
        have hq9 := m9.fr q _ qS.1 qS.2 hq8
        refine ⟨_, rfl, _, rfl, q, xs, (i : Int), i, rfl, rfl, hq9, Evl.ixN_nat hi, ?_⟩
        have m10 : Mv S c H (upd H9 q (.lst (xs.set i y))) := m09.mut qH
        have q10 : (upd H9 q (.lst (xs.set i y))) q = some (.lst (xs.set i y)) := upd_same
        have gy' : Gv (3 * m + 3) (n + 11) (fun b => (Z b ∨ H b = none) ∧ b ≠ q) H9 y := gv_up (Nat.le_refl _) (Nat.le_refl _) (fun b hb => by
          rcases hb with hb | hb
          · exact ⟨.inl hb.1, hb.2⟩
          · refine ⟨.inr (m8.back hb), fun z => ?_⟩
            rw [z, hq8] at hb; cases hb) gy
        have all10 : ∀ z ∈ xs.set i y, Gv (3 * m + 3) (n + 11) (fun b => Z b ∨ H b = none) (upd H9 q (.lst (xs.set i y))) z := fun z hz => by
          refine gv_up (Nat.le_refl _) (Nat.le_refl _) (fun b hb => hb.1) (gv_upd (Z := fun b => (Z b ∨ H b = none) ∧ b ≠ q) hq9 (fun _ z => nomatch z) (fun b z => z.2) ?_)
          rcases List.mem_or_eq_of_mem_set hz with hz | hz
          · exact old m09 z hz
          · rw [hz]; exact gy'
        have l10 : (xs.set i y).length = xs.length := List.length_set ..
        generalize upd H9 q (.lst (xs.set i y)) = H10 at m10 q10 all10 ⊢
        refine Evl.q_when (b := false) (Evl.et_B (ev_isC (Evl.ev_var rfl) (rp_mv m10 nZS nZc (show Rp H m (n + 1) Z (.lst l) (.ref a) from ⟨a, xs, rfl, Za, ha, hl, pr⟩)) ki_lst_tuple)) (fun h => nomatch h) fun _ H11 e11 => ?_
        exact Evl.s_ret (Evl.ev_var rfl) fun H12 e12 => k H12 _ (m10.tx (e11.trans e12)) (gv_up (by omega) (Nat.le_refl _) (fun _ z => z) (gv_lst ((e11.trans e12) _ _ q10) (.inr qH) (by omega) fun z hz => gv_ex (e11.trans e12) (all10 z hz)))
      | tup l =>
        obtain ⟨a, xs, rfl, ha, hl, pr⟩ := hg
        have hak : ∀ {H1 : Hp}, Mv S c H H1 → H1 a = some (.tup xs) := fun mv => mv.tup ha
        have lx := pair_len pr
        have hx : ∀ x ∈ xs, Gv m n Z H x := fun x hm => by
          obtain ⟨d, _, r⟩ := pair_memB pr x hm
          exact ⟨d, r⟩
        refine q_orDraw (b := decide (V.int (xs.length : Int) = V.int 0)) (k := 6) (is3 rfl) (Evl.et_test (Evl.ev_op (ev_lenM1 (Evl.ev_var rfl) (.inr (Evl.st_of ha))) Evl.ev_c (Evl.rv_eq rfl))) (Evl.ev_var rfl) Evl.ev_c st (by decide) (by decide) (fun H1 m1 => chg m1 rfl rfl k) fun hb H1 m1 => ?_
        have x0 : 0 < xs.length := by
          cases c0 : xs.length with
          | zero => rw [c0] at hb; simp at hb
          | succ t => omega
        refine q_asgM (tdraw (k := (xs.length : Int)) (Evl.ev_var rfl) (ev_lenM1 (Evl.ev_var rfl) (.inr (Evl.st_of (hak m1)))) m1.z (by omega) (by omega) fun H2 r m2 r0 r1 => ?_)
        obtain ⟨i, rfl⟩ := Int.eq_ofNat_of_zero_le r0
        have hi : i < xs.length := by omega
        obtain ⟨x, hxi⟩ : ∃ x, xs[i]? = some x := ⟨_, List.getElem?_eq_getElem hi⟩
        have m02 := m1.trans m2
        refine Evl.q_when (b := false) (Evl.et_B (ev_isC (Evl.ev_var rfl) (rp_mv m02 nZS nZc (show Rp H m (n + 1) Z (.tup l) (.ref a) from ⟨a, xs, rfl, ha, hl, pr⟩)) ki_tup_dict)) (fun h => nomatch h) fun _ H6 e6 => ?_
        have m6 := m02.tx e6
        refine Evl.q_asgL (el_list (Evl.ev_var rfl) (.inr (Evl.st_of (hak m6)))) fun q H8 hq e8 hq8 => ?_
        have m8 := m6.tx e8
        have qS := m6.z.someS hq
        have qH := m6.back hq
        have old : ∀ {Hx : Hp}, Mv S c H Hx → ∀ x ∈ xs, Gv (3 * m + 3) (n + 11) (fun b => (Z b ∨ H b = none) ∧ b ≠ q) Hx x := fun mv x hm => gv_up (by omega) (by omega) (fun b hb => ⟨.inl hb.1, hb.2⟩) (gv_mv (Z := fun b => Z b ∧ b ≠ q) mv (fun z => nZS z.1) (fun z => nZc z.1) (gv_ne qH (hx x hm)))
        refine q_asgS (tspoil (Z := fun b => Z b ∧ b ≠ q) (Evl.ev_var rfl) (Evl.ev_op (Evl.ev_var rfl) (Evl.ev_var rfl) (Evl.rv_ixL (Evl.sq_of hq8) (atI_nat hxi))) m8.z (gv_mv m8 (fun z => nZS z.1) (fun z => nZc z.1) (gv_ne qH (hx x (List.mem_of_getElem? hxi)))) (fun z => nZS z.1) (fun z => nZc z.1) m16 mz fun H9 y m9 gy => ?_)
        have m09 := m8.trans m9
        have hq9 := m9.fr q _ qS.1 qS.2 hq8
        refine ⟨_, rfl, _, rfl, q, xs, (i : Int), i, rfl, rfl, hq9, Evl.ixN_nat hi, ?_⟩
        have m10 : Mv S c H (upd H9 q (.lst (xs.set i y))) := m09.mut qH
        have q10 : (upd H9 q (.lst (xs.set i y))) q = some (.lst (xs.set i y)) := upd_same
        have gy' : Gv (3 * m + 3) (n + 11) (fun b => (Z b ∨ H b = none) ∧ b ≠ q) H9 y := gv_up (Nat.le_refl _) (Nat.le_refl _) (fun b hb => by
          rcases hb with hb | hb
          · exact ⟨.inl hb.1, hb.2⟩
          · refine ⟨.inr (m8.back hb), fun z => ?_⟩
            rw [z, hq8] at hb; cases hb) gy
        have all10 : ∀ z ∈ xs.set i y, Gv (3 * m + 3) (n + 11) (fun b => Z b ∨ H b = none) (upd H9 q (.lst (xs.set i y))) z := fun z hz => by
          refine gv_up (Nat.le_refl _) (Nat.le_refl _) (fun b hb => hb.1) (gv_upd (Z := fun b => (Z b ∨ H b = none) ∧ b ≠ q) hq9 (fun _ z => nomatch z) (fun b z => z.2) ?_)
          rcases List.mem_or_eq_of_mem_set hz with hz | hz
          · exact old m09 z hz
          · rw [hz]; exact gy'
        have l10 : (xs.set i y).length = xs.length := List.length_set ..
        generalize upd H9 q (.lst (xs.set i y)) = H10 at m10 q10 all10 ⊢
        refine Evl.q_when (b := true) (Evl.et_B (ev_isC (Evl.ev_var rfl) (rp_mv m10 nZS nZc (show Rp H m (n + 1) Z (.tup l) (.ref a) from ⟨a, xs, rfl, ha, hl, pr⟩)) ki_tup_tuple)) (fun _ H11 e11 => ?_) fun h => nomatch h
        exact s_retM (ep_tupOf (m := 3 * m + 3) (n := n + 11) (Z := fun b => Z b ∨ H b = none) (Evl.ev_var rfl) (e11 _ _ q10) (fun z hz => gv_ex e11 (all10 z hz)) (by omega) _ (Ex.refl _) _ fun v12 H12 e12 g12 => k H12 v12 (m10.tx (e11.trans e12)) (gv_up (by omega) (Nat.le_refl _) (fun _ z => z) g12))
/-- data no deeper than N -/
def spSpoilU (N : Nat) : Sp := fun vs H Q E => ∃ n, n ≤ N ∧ spSpoil n vs H Q E
theorem ok__law_spoil (T : Txt K mg C_Shape C_InvalidShape C_InvalidData C_StayError) (R : Prg K mg C_Shape C_InvalidShape C_InvalidData C_StayError) (N : Nat) : ∃ f fd, Fn P w K mg base "_law_spoil" (N + 6) ["_law_stream_here", "_law_value"] (spSpoilU N) f fd := by
  obtain ⟨f, fd, at_, F, kp⟩ := R._law_spoil
  have B := fun n => ok__law_spoilA (P := P) (w := w) (base := base) T R at_ F kp n
  exact ⟨f, fd, ⟨fun vs H Q E ⟨n, _, h⟩ => (B n).ok.len vs H Q E h, fun A outer s H args us vs Q E hr he hb hv ⟨n, hn, h⟩ => (B n).ok.run A outer s H args us vs Q E (hr.mono (by omega)) he hb hv h⟩, at_, kp, (B 0).bd⟩
end
end Pk

namespace Pk
open PySem PySem.Spec PyProof.Rows L2 Ssb
open Evl (Ex Ev EvT EvL EvA EvU)
theorem put_keys {es : List (Key × V)} {k : Key} {v : V} : (∀ e ∈ putK es k v, e.1 = k ∨ ∃ e0 ∈ es, e0.1 = e.1) ∧ (putK es k v).length ≤ es.length + 1 ∧ 0 < (putK es k v).length := by
  unfold putK
  by_cases c : (es.any fun kv => decide (kv.1 = k)) = true
  · rw [if_pos c]
    refine ⟨fun e he => ?_, by rw [List.length_map]; omega, ?_⟩
    · obtain ⟨e0, h0, rfl⟩ := List.mem_map.mp he
      refine .inr ⟨e0, h0, ?_⟩
      show e0.1 = (if e0.1 = k then (e0.1, v) else e0).1
      split <;> rfl
    · obtain ⟨e, he, _⟩ := List.any_eq_true.mp c
      rw [List.length_map]
      exact List.length_pos_of_mem he
  · rw [if_neg c]
    refine ⟨fun e he => ?_, by rw [List.length_append]; exact Nat.le_refl _, by rw [List.length_append]; exact Nat.succ_pos _⟩
    rcases List.mem_append.mp he with he | he
    · exact .inr ⟨e, he, rfl⟩
    · exact .inl (by rw [List.mem_singleton.mp he])
def strK (m : Nat) (es : List (Key × V)) : Prop := ∀ e ∈ es, ∃ s : Str, e.1 = Sum.inr s ∧ s.length ≤ m
theorem strK_put {m : Nat} {es : List (Key × V)} {x : Str} {v : V} (h : strK m es) (hx : x.length ≤ m) : strK m (putK es (Sum.inr x : Key) v) := fun e he => by
  rcases put_keys.1 e he with z | ⟨e0, h0, z⟩
  · exact ⟨x, z, hx⟩
  · rw [← z]; exact h e0 h0
section
variable {P : Program} {w : World} {K : PySem.W.Frag} {mg : Str → Option Value} {base : Heap} {C_Shape C_InvalidShape C_InvalidData C_StayError : Addr}
def spAboutG : Sp := fun vs H Q _ => ∃ (v : V) (m n : Nat) (S : Addr → Prop) (l : List KG), vs = [v] ∧ Rp H m n S (.dic l) v ∧ listsG (.dic l) = true ∧
  ∀ H' q es, Ex H H' → H q = none → H' q = some (.dK es) → strK m es → es.length ≤ 4 → (0 < l.length → 0 < es.length) → Q (.ref q) H'
theorem ok__law_about (T : Txt K mg C_Shape C_InvalidShape C_InvalidData C_StayError) (R : Prg K mg C_Shape C_InvalidShape C_InvalidData C_StayError) : ∃ f fd, Fn P w K mg base "_law_about" 1 ["_law_lists_here"] spAboutG f fd := by
  obtain ⟨f, fd, at_, F, kp⟩ := R._law_about
  refine ⟨f, fd, F.ok sc__law_about (fun vs H Q E h => ?_) (fun cdv A outer s H vs Q E hr h => ?_), at_, kp, F.binds (fun _ _ _ _ _ _ us hl => match us, hl with | [_], _ => rfl)⟩
  · obtain ⟨v, m, n, S, l, rfl, _⟩ := h; rfl
  · obtain ⟨v, m, n, Z, l, rfl, hv, hok, k⟩ := h
    obtain ⟨a, es, rfl, _, ha, ek, l2, okk, desc⟩ := descG hv hok
    have le : es.length = l.length := by have := congrArg List.length ek; simpa using this
    refine ⟨_, (pss_cons (ps_set (i := 1) sc__law_about.nd rfl (Or.inl rfl) pe_dnewK)
  (pss_cons (ps_lock (ps_for PassesOwn.never rfl (pi_keys (pv 0)) (pg_name (i := 2) sc__law_about.nd rfl (Or.inl rfl))
    (pss_cons (ps_dput (hu_of hr) (pv 1) (pv 2) (pe_dget (hu_of hr) (pv 0) (pv 2) (fun _ _ => rfl)) rfl)
  (pss_one (ps_lock (ps_for PassesOwn.never rfl (pi_keys (pe_dget (hu_of hr) (pe_dget (hu_of hr) (pv 0) (pv 2) (fun _ _ => rfl)) pe_str (fun _ _ => rfl))) (pg_name (i := 3) sc__law_about.nd rfl (Or.inl rfl))
    (pss_one (ps_dput (hu_of hr) (pv 1) (pv 3) (pe_dget (hu_of hr) (pe_dget (hu_of hr) (pe_dget (hu_of hr) (pv 0) (pv 2) (fun _ _ => rfl)) pe_str (fun _ _ => rfl)) (pv 3) (fun _ _ => rfl)) rfl))))))))
  (pss_one (ps_ret (pv 1))))), ?_⟩
    intro a1 h1
    have n1a : a1 ≠ a := fun e => by rw [e, ha] at h1; cases h1
    refine for_lock (J := fun od => Itk a od es) (xs := fun _ => none) (d := a) (es := es) (by rw [upd_ne n1a.symm]; exact ha) (fun od R r => ⟨_, rfl, a, od, rfl, .inl ⟨es, upd_same, r⟩⟩) (fun od => walk_keys)
      (fun od j σ' H' => ∃ (es' : List (Key × V)) (o2 o3 : Option V), σ' = [some (.ref a), some (.ref a1), o2, o3] ∧ Ex (upd H a (.frz od (.dK es))) H' ∧ H' a1 = some (.dK es') ∧ strK m es' ∧ es'.length ≤ 2 * j ∧ (0 < j → 0 < es'.length))
      (fun od => ⟨[], _, _, rfl, Ex.both (Ex.new h1), by rw [upd_ne n1a]; exact upd_same, (fun e he => nomatch he), Nat.zero_le _, fun h => absurd h (by decide)⟩) (fun od j σ' H' _ ⟨_, _, _, _, e, _⟩ => e _ _ upd_same) (fun od j x σ' H0 H' hlt pv y => ?_) fun od σ' H' pv => ?_
    · obtain ⟨es', o2, o3, rfl, e, h1', sk, l1, _⟩ := pv
      obtain ⟨rfl, kk, vj, hkv, rfl⟩ := y
      have hq : l[j]? = some (l[j]'(by omega)) := List.getElem?_eq_getElem (by omega)
      generalize l[j]'(by omega) = p at hq
      obtain ⟨x, xes, fv, ia, ies, li, hes, hpk, ⟨_, nxa⟩, hx, hfv, hrf, hiv, ⟨⟨_, nia⟩, nix⟩, hia, eli, li1, okki, eki, hin⟩ := desc j p hq
      obtain ⟨rfl, rfl⟩ := Prod.mk.inj (Option.some.inj (hkv.symm.trans hes))
      have hvj : valV es (Sum.inr (nmK p.1) : Key) = some (.ref x) := by
        have := valV_atK (by rw [ek]; exact okk.1) hes
        rw [hpk] at this
        exact this
      have lp : (nmK p.1).length ≤ m := by
        have := okk.2 p (List.mem_of_getElem? hq)
        rw [hpk] at this
        exact this
      have lie : ies.length = li.length := by have := congrArg List.length eki; simpa using this
      have hks : kV p.1 = V.str (nmK p.1) := congrArg kV hpk
      rw [hks]
      have a1L : (upd H a (.frz od (.dK es))) a1 = none := by rw [upd_ne n1a]; exact h1
      have ne1 : ∀ {b o}, (upd H a (.frz od (.dK es))) b = some o → b ≠ a1 := fun {b o} hb e => by rw [e, a1L] at hb; cases hb
      have xL : (upd H a (.frz od (.dK es))) x = some (.dK xes) := by rw [upd_ne nxa]; exact hx
      have iL : (upd H a (.frz od (.dK es))) ia = some (.dK ies) := by rw [upd_ne nia]; exact hia
      have aL : (upd H a (.frz od (.dK es))) a = some (.frz od (.dK es)) := upd_same
      generalize (upd H a (.frz od (.dK es))) = HL at e a1L ne1 xL iL aL ⊢
      refine ⟨_, rfl, _, rfl, a, .ref x, rfl, .inl ⟨es, Sum.inr (nmK p.1), .inr ⟨od, e _ _ aL⟩, rfl, hvj.symm⟩, _, rfl, _, rfl, a1, _, rfl, .inl ⟨es', Sum.inr (nmK p.1), h1', rfl, Evl.sz_lt (by omega), rfl⟩, ?_⟩
      have e1 : Ex HL (upd H' a1 (.dK (putK es' (Sum.inr (nmK p.1)) (.ref x)))) := Ex.mut e a1L
      have h11 : (upd H' a1 (.dK (putK es' (Sum.inr (nmK p.1)) (.ref x)))) a1 = some (.dK (putK es' (Sum.inr (nmK p.1)) (.ref x))) := upd_same
      have s11 := strK_put (v := .ref x) sk lp
      have l11 : (putK es' (Sum.inr (nmK p.1) : Key) (.ref x)).length ≤ es'.length + 1 := put_keys.2.1
      have z11 : 0 < (putK es' (Sum.inr (nmK p.1) : Key) (.ref x)).length := put_keys.2.2
      generalize (upd H' a1 (.dK (putK es' (Sum.inr (nmK p.1)) (.ref x)))) = H1 at e1 h11 ⊢
      generalize putK es' (Sum.inr (nmK p.1) : Key) (.ref x) = es1 at h11 s11 l11 z11
      refine for_lock (J := fun od2 => Itk ia od2 ies) (xs := fun _ => none) (d := ia) (es := ies) (e1 _ _ iL) (fun od2 R r => ⟨_, rfl, _, rfl, a, .ref x, rfl, .inl ⟨es, Sum.inr (nmK p.1), .inr ⟨od, (by rw [upd_ne nia.symm]; exact e1 _ _ aL)⟩, rfl, hvj.symm⟩, x, _, rfl, .inl ⟨xes, Sum.inr "inner", .inl (by rw [upd_ne nix.symm]; exact e1 _ _ xL), rfl, hiv.symm⟩, ia, od2, rfl, .inl ⟨ies, upd_same, r⟩⟩) (fun od2 => walk_keys)
        (fun od2 i σ' H2 => ∃ (es2 : List (Key × V)) (o3 : Option V), σ' = [some (.ref a), some (.ref a1), some (.str (nmK p.1)), o3] ∧ Ex (upd HL ia (.frz od2 (.dK ies))) H2 ∧ H2 a1 = some (.dK es2) ∧ strK m es2 ∧ es2.length ≤ 2 * j + 1 + i ∧ 0 < es2.length)
        (fun od2 => ⟨_, _, rfl, Ex.both e1, by rw [upd_ne (ne1 iL).symm]; exact h11, s11, by omega, z11⟩) (fun od2 i σ' H' _ ⟨_, _, _, e, _⟩ => e _ _ upd_same) (fun od2 i x2 σ' H3 H2 hlt2 pv2 y2 => ?_) fun od2 σ' H2 pv2 => ?_
      · obtain ⟨es2, o3', rfl, e2, h12, s2, ll2, z2⟩ := pv2
        obtain ⟨rfl, kk2, vk, hkv2, rfl⟩ := y2
        have hq2 : li[i]? = some (li[i]'(by omega)) := List.getElem?_eq_getElem (by omega)
        generalize li[i]'(by omega) = q at hq2
        obtain ⟨yy, yes, gv, hies, hqk, ⟨⟨_, nya⟩, nyi⟩, hy, _, hgv, hrg⟩ := hin i q hq2
        obtain ⟨rfl, rfl⟩ := Prod.mk.inj (Option.some.inj (hkv2.symm.trans hies))
        have hvk : valV ies (Sum.inr (nmK q.1) : Key) = some (.ref yy) := by
          have := valV_atK (by rw [eki]; exact okki.1) hies
          rw [hqk] at this
          exact this
        have lq : (nmK q.1).length ≤ m := by
          have := okki.2 q (List.mem_of_getElem? hq2)
          rw [hqk] at this
          exact this
        have hks2 : kV q.1 = V.str (nmK q.1) := congrArg kV hqk
        rw [hks2]
        exact ⟨_, rfl, _, rfl, a, .ref x, rfl, .inl ⟨es, Sum.inr (nmK p.1), .inr ⟨od, e2 _ _ (by rw [upd_ne nia.symm]; exact aL)⟩, rfl, hvj.symm⟩, x, _, rfl, .inl ⟨xes, Sum.inr "inner", .inl (e2 _ _ (by rw [upd_ne nix.symm]; exact xL)), rfl, hiv.symm⟩, _, rfl, ia, .ref yy, rfl, .inl ⟨ies, Sum.inr (nmK q.1), .inr ⟨od2, e2 _ _ upd_same⟩, rfl, hvk.symm⟩, _, rfl, _, rfl, a1, _, rfl, .inl ⟨es2, Sum.inr (nmK q.1), h12, rfl, Evl.sz_lt (by omega), rfl⟩,
          _, _, rfl, Ex.mut e2 (by rw [upd_ne (ne1 iL).symm]; exact a1L), upd_same, strK_put s2 lq, by have := (put_keys (es := es2) (k := (Sum.inr (nmK q.1) : Key)) (v := V.ref yy)).2.1; omega, put_keys.2.2⟩
      · obtain ⟨es2, o3', rfl, e2, h12, s2, ll2, z2⟩ := pv2
        exact ⟨es2, _, _, rfl, unlock iL e2, by rw [upd_ne (ne1 iL).symm]; exact h12, s2, by omega, fun _ => z2⟩
    · obtain ⟨es', o2, o3, rfl, e, h1', sk, l1, z1⟩ := pv
      exact Evl.s_ret (Evl.ev_var rfl) fun H7 e7 => k H7 a1 es' ((unlock ha e).trans e7) h1 (e7 _ _ (by rw [upd_ne n1a]; exact h1')) sk (by omega) (fun h => z1 (by omega))
end
end Pk

namespace Pk
open PySem PySem.Spec PyProof.Rows L2 Ssb
open Evl (Ex Ev EvT EvL EvA EvU)
def rSortDK : List V → Hp → VK → Prop := fun xs H Q => ∃ (a : Addr) (kvs : List (Key × V)) (ks : List Str), xs = [.ref a] ∧ Rd H a (.dK kvs) ∧ kvs.map (·.1) = ks.map Sum.inr ∧ ks.length < 64 ∧ ∀ ys p, ys.Perm ks → sortedS ys = true → H p = none → Q (.ref p) (upd H p (.lst (ys.map V.str)))
theorem strK_keys {m : Nat} : ∀ {es : List (Key × V)}, strK m es → ∃ ks : List Str, es.map (·.1) = ks.map Sum.inr ∧ ks.length = es.length ∧ ∀ x ∈ ks, x.length ≤ m
  | [], _ => ⟨[], rfl, rfl, fun x hx => nomatch hx⟩
  | e :: es, h => by
    obtain ⟨ks, h1, h2, h3⟩ := strK_keys (es := es) fun e he => h e (List.mem_cons_of_mem _ he)
    obtain ⟨s, hs, hl⟩ := h e List.mem_cons_self
    refine ⟨s :: ks, by rw [List.map_cons, List.map_cons, h1, hs], by rw [List.length_cons, List.length_cons, h2], fun x hx => ?_⟩
    rcases List.mem_cons.mp hx with rfl | hx
    · exact hl
    · exact h3 x hx
section
variable {S c a : Addr} {H H' : Hp} {u u' : HO}
theorem mv_unlock (hd : H a = some u) (aS : a ≠ S) (ac : a ≠ c) (mv : Mv S c (upd H a u') H') : Mv S c H (upd H' a u) := by
  obtain ⟨n, k, cs, h1, h2, h3⟩ := mv.a
  obtain ⟨_, k', cs', h1', h2', h3'⟩ := mv.z
  refine ⟨⟨n, k, cs, by rw [upd_ne aS.symm] at h1; exact h1, by rw [upd_ne ac.symm] at h2; exact h2, h3⟩, ⟨n, k', cs', by rw [upd_ne aS.symm]; exact h1', by rw [upd_ne ac.symm]; exact h2', h3'⟩, fun b o b1 b2 hb => ?_⟩
  by_cases e : b = a
  · subst e; rw [upd_same, ← hd]; exact hb
  · rw [upd_ne e]; exact mv.fr b o b1 b2 (by rw [upd_ne e]; exact hb)
theorem mv_both (aS : a ≠ S) (ac : a ≠ c) (mv : Mv S c H H') : Mv S c (upd H a u) (upd H' a u) := by
  obtain ⟨n, k, cs, h1, h2, h3⟩ := mv.a
  obtain ⟨_, k', cs', h1', h2', h3'⟩ := mv.z
  refine ⟨⟨n, k, cs, by rw [upd_ne aS.symm]; exact h1, by rw [upd_ne ac.symm]; exact h2, h3⟩, ⟨n, k', cs', by rw [upd_ne aS.symm]; exact h1', by rw [upd_ne ac.symm]; exact h2', h3'⟩, fun b o b1 b2 hb => ?_⟩
  by_cases e : b = a
  · subst e; rw [upd_same] at hb ⊢; exact hb
  · rw [upd_ne e] at hb ⊢; exact mv.fr b o b1 b2 hb
end
theorem s_dputM {td ty tv : TE} {D : Ends} {σ : L2.St} {H : Hp} (h : tv σ H fun v H1 => td σ H1 fun x H2 => ty σ H2 fun y H3 => ∃ a H4, x = .ref a ∧ DPut H3 a y v H4 ∧ D.nx σ H4) : sDPut td ty tv D σ H := h
theorem gv_in {H1 : Hp} {m n : Nat} {Z : Addr → Prop} {v : V} {d : Addr} {es : List (Key × V)} {u : HO} (hd : H1 d = some (.dK es)) (hz : ∀ b, Z b → b ≠ d) (h : Gv m n Z H1 v) : Gv m n Z (upd H1 d u) v := h.imp fun _ r => rp_lock hd hz r
theorem ep_d2g {σ : L2.St} {H : Hp} {m n : Nat} {Z : Addr → Prop} {t1 t2 : TE} {v1 v2 : V} {x y : Str} (ne : x ≠ y) (hx : x.length ≤ m) (hy : y.length ≤ m) (h1 : 2 ≤ m) (hz : ∀ a, H a = none → Z a) (he1 : Ev t1 σ H v1) (he2 : Ev t2 σ H v2) (g1 : Gv m n Z H v1) (g2 : Gv m n Z H v2) : EvG (tDisp [(tC (.str x), t1), (tC (.str y), t2)]) σ H (Gv m (n + 1) Z) := fun H1 e Q q => by
  intro p hp
  refine he1 _ (e.trans (Ex.new hp)) _ fun H2 e2 => ?_
  refine he2 _ (e.trans ((Ex.new hp).trans e2)) _ fun H3 e3 => ?_
  have h3 := (e2.trans e3) _ _ upd_same
  have e13 : Ex H1 H3 := (Ex.new hp).trans (e2.trans e3)
  refine ⟨h3, [(Sum.inr x, v1), (Sum.inr y, v2)], rfl, (by show 2 ≤ 15; decide), ?_⟩
  rw [merge2 ne]
  refine q (.ref p) _ (Ex.mut e13 hp) (gv_dic upd_same (hz p (Evl.fresh_back e hp)) h1 ⟨by simp [ne], fun en hen => ?_⟩)
  have up : ∀ {z : V}, Gv m n Z H z → Gv m n (fun b => Z b ∧ b ≠ p) (upd H3 p (.dK [((Sum.inr x : Key), v1), (Sum.inr y, v2)])) z := fun h => gv_upd h3 (fun _ z => nomatch z) (fun b z => z.2) (gv_ex e13 (gv_ne hp (gv_ex e h)))
  rcases List.mem_cons.mp hen with rfl | hen
  · exact ⟨hx, up g1⟩
  · have hen : en = (Sum.inr y, v2) := List.mem_singleton.mp hen
    rw [hen]
    exact ⟨hy, up g2⟩
section
variable {P : Program} {w : World} {K : PySem.W.Frag} {mg : Str → Option Value} {base : Heap} {C_Shape C_InvalidShape C_InvalidData C_StayError : Addr}
def spRenamed : Sp := fun vs H Q _ => ∃ (S c : Addr) (v : V) (m n : Nat) (Z : Addr → Prop) (l : List KG), vs = [.ref S, v] ∧ StAt H S c ∧ Rp H m n Z (.dic l) v ∧ listsG (.dic l) = true ∧ ¬ Z S ∧ ¬ Z c ∧ 16 ≤ m ∧ m ≤ 12000 ∧
  ∀ H' v', Mv S c H H' → Gv m (n + 3) (fun b => Z b ∨ H b = none) H' v' → Q v' H'
theorem ok__law_renamed (T : Txt K mg C_Shape C_InvalidShape C_InvalidData C_StayError) (R : Prg K mg C_Shape C_InvalidShape C_InvalidData C_StayError) : ∃ f fd, Fn P w K mg base "_law_renamed" 3 ["_law_stream_here", "_law_lists_here"] spRenamed f fd := by
  obtain ⟨_, _, G__law_draw⟩ := ok__law_draw (P := P) (w := w) (base := base) T R
  obtain ⟨_, _, G__law_about⟩ := ok__law_about (P := P) (w := w) (base := base) T R
  obtain ⟨f, fd, at_, F, kp⟩ := R._law_renamed
  refine ⟨f, fd, F.ok sc__law_renamed (fun vs H Q E h => ?_) (fun cdv A outer s H vs Q E hr h => ?_), at_, kp, F.binds (fun _ _ _ _ _ _ us hl => match us, hl with | [_, _], _ => rfl)⟩
  · obtain ⟨S, c, v, m, n, Z, l, rfl, _⟩ := h; rfl
  · obtain ⟨S, c, v, m, n, Z, l, rfl, st, hv, hok, nZS, nZc, m16, mz, k⟩ := h
    obtain ⟨a, es, rfl, Za, ha, ek, l2, okk, desc⟩ := descG hv hok
    have le : es.length = l.length := by have := congrArg List.length ek; simpa using this
    have aS : a ≠ S := fun e => nZS (e ▸ Za)
    have ac : a ≠ c := fun e => nZc (e ▸ Za)
    have nS : ¬ (Z S ∨ H S = none) := fun z => z.elim nZS fun z => (st.someS z).1 rfl
    have nc : ¬ (Z c ∨ H c = none) := fun z => z.elim nZc fun z => (st.someS z).2 rfl
    refine ⟨_, (pss_cons (ps_set (i := 2) sc__law_renamed.nd rfl (Or.inl rfl) (pe_callB (r := rSortDK) (call_sortedD rfl) (by rfl) T.sorted (by decide +kernel) (pa_cons (pcl G__law_about hr (pa_cons (pv 1) pa_nil)) pa_nil)))
  (pss_cons (ps_set (i := 3) sc__law_renamed.nd rfl (Or.inl rfl) pe_dnewK)
  (pss_cons (ps_lock (ps_for PassesOwn.never rfl (pi_keys (pv 1)) (pg_name (i := 4) sc__law_renamed.nd rfl (Or.inl rfl))
    (pss_cons (ps_set (i := 5) sc__law_renamed.nd rfl (Or.inl rfl) pe_dnewK)
  (pss_cons (ps_lock (ps_for PassesOwn.never rfl (pi_keys (pe_dget (hu_of hr) (pe_dget (hu_of hr) (pv 1) (pv 4) (fun _ _ => rfl)) pe_str (fun _ _ => rfl))) (pg_name (i := 6) sc__law_renamed.nd rfl (Or.inl rfl))
    (pss_one (ps_dput (hu_of hr) (pv 5) (pe_ix (r := rIxL K) ix_list (pv 2) (pcl G__law_draw hr (pa_cons (pv 0) (pa_cons (pe_callB (r := rLenA K) call_len (by rfl) T.len (by decide +kernel) (pa_cons (pv 2) pa_nil)) pa_nil))) (fun _ _ => rfl)) (pe_dget (hu_of hr) (pe_dget (hu_of hr) (pe_dget (hu_of hr) (pv 1) (pv 4) (fun _ _ => rfl)) pe_str (fun _ _ => rfl)) (pv 6) (fun _ _ => rfl)) rfl))))
  (pss_one (ps_dput (hu_of hr) (pv 3) (pv 4) (pe_disp (pps_cons pe_str (pe_dget (hu_of hr) (pe_dget (hu_of hr) (pv 1) (pv 4) (fun _ _ => rfl)) pe_str (fun _ _ => rfl)) (pps_cons pe_str (pv 5) pps_nil)) (by rfl) (by rfl) (fun z => by cases z) (by decide)) rfl))))))
  (pss_one (ps_ret (pv 3)))))), ?_⟩
    refine q_asgM ⟨_, rfl, _, m, n, Z, l, rfl, hv, hok, fun H1 d0 es0 e1 d0n hd0 sk l4 pos => ?_⟩
    obtain ⟨ks0, ek0, lk0, sz0⟩ := strK_keys sk
    refine ⟨d0, es0, ks0, rfl, .inl hd0, ek0, by omega, fun ks q pm _ hq => ?_⟩
    have lks : ks.length = ks0.length := pm.length_eq
    have szk : ∀ x ∈ ks, x.length ≤ m := fun x hx => sz0 x (pm.mem_iff.mp hx)
    have e2 : Ex H (upd H1 q (.lst (ks.map V.str))) := e1.trans (Ex.new hq)
    have q2 : (upd H1 q (.lst (ks.map V.str))) q = some (.lst (ks.map V.str)) := upd_same
    have qH := Evl.fresh_back e1 hq
    have qS := st.someS qH
    generalize upd H1 q (.lst (ks.map V.str)) = H2 at e2 q2 ⊢
    refine q_asgM fun p hp => ?_
    have pH : H p = none := Evl.fresh_back e2 hp
    have pS := st.someS pH
    have npq : p ≠ q := fun z => by rw [z, q2] at hp; cases hp
    have m3 : Mv S c H (upd H2 p (.dK [])) := .ex st (e2.trans (Ex.new hp))
    have p3 : (upd H2 p (.dK [])) p = some (.dK []) := upd_same
    have q3 : (upd H2 p (.dK [])) q = some (.lst (ks.map V.str)) := Ex.new hp _ _ q2
    generalize upd H2 p (.dK []) = H3 at m3 p3 q3 ⊢
    have npa : p ≠ a := fun e => by rw [e, ha] at pH; cases pH
    have nqa : q ≠ a := fun e => by rw [e, ha] at qH; cases qH
    refine for_lock (J := fun od => Itk a od es) (xs := fun _ => none) (d := a) (es := es) (m3.fr a _ aS ac ha) (fun od R r => ⟨_, rfl, a, od, rfl, .inl ⟨es, upd_same, r⟩⟩) (fun od => walk_keys)
      (fun od j σ' H' => ∃ (o4 o5 o6 : Option V) (es2 : List (Key × V)), σ' = [some (.ref S), some (.ref a), some (.ref q), some (.ref p), o4, o5, o6] ∧ Mv S c (upd H a (.frz od (.dK es))) H' ∧ H' q = some (.lst (ks.map V.str)) ∧ H' p = some (.dK es2) ∧ Ge m (n + 2) (fun b => ((Z b ∧ b ≠ a) ∨ (upd H a (.frz od (.dK es))) b = none) ∧ b ≠ p) H' es2 ∧ es2.length ≤ j)
      (fun od => ⟨_, _, _, [], rfl, mv_both aS ac m3, by rw [upd_ne nqa]; exact q3, by rw [upd_ne npa]; exact p3, ⟨List.nodup_nil, (fun e he => nomatch he)⟩, Nat.zero_le _⟩) (fun od j σ' H' _ ⟨_, _, _, _, _, mv, _⟩ => mv.fr a _ aS ac upd_same) (fun od j x σ' H0 H' hlt pv y => ?_) fun od σ' H' pv => ?_
    · obtain ⟨o4, o5, o6, es2, rfl, mv, hq', hp', g', l'⟩ := pv
      obtain ⟨rfl, kk, vj, hkv, rfl⟩ := y
      have hq1 : l[j]? = some (l[j]'(by omega)) := List.getElem?_eq_getElem (by omega)
      generalize l[j]'(by omega) = pe at hq1
      obtain ⟨x, xes, fv, ia, ies, li, hes, hpk, ⟨Zx, nxa⟩, hx, hfv, hrf, hiv, ⟨⟨Zi, nia⟩, nix⟩, hia, eli, li1, okki, eki, hin⟩ := desc j pe hq1
      obtain ⟨rfl, rfl⟩ := Prod.mk.inj (Option.some.inj (hkv.symm.trans hes))
      have hvj : valV es (Sum.inr (nmK pe.1) : Key) = some (.ref x) := by
        have := valV_atK (by rw [ek]; exact okk.1) hes
        rw [hpk] at this
        exact this
      have lp : (nmK pe.1).length ≤ m := by
        have := okk.2 pe (List.mem_of_getElem? hq1)
        rw [hpk] at this
        exact this
      have lie : ies.length = li.length := by have := congrArg List.length eki; simpa using this
      have hks : kV pe.1 = V.str (nmK pe.1) := congrArg kV hpk
      rw [hks]
      have iS : ia ≠ S := fun e => nZS (e ▸ Zi)
      have ic : ia ≠ c := fun e => nZc (e ▸ Zi)
      have xS : x ≠ S := fun e => nZS (e ▸ Zx)
      have xc : x ≠ c := fun e => nZc (e ▸ Zx)
      have ks0p : 0 < ks.length := by rw [lks, lk0]; exact pos (by omega)
      have pL : (upd H a (.frz od (.dK es))) p = none := by rw [upd_ne npa]; exact pH
      have qL : (upd H a (.frz od (.dK es))) q = none := by rw [upd_ne nqa]; exact qH
      have xL : (upd H a (.frz od (.dK es))) x = some (.dK xes) := by rw [upd_ne nxa]; exact hx
      have iL : (upd H a (.frz od (.dK es))) ia = some (.dK ies) := by rw [upd_ne nia]; exact hia
      have aL : (upd H a (.frz od (.dK es))) a = some (.frz od (.dK es)) := upd_same
      have fL : Gv m n (fun b => Z b ∧ b ≠ a) (upd H a (.frz od (.dK es))) fv := gv_up (by omega) (Nat.le_refl _) (fun _ z => z) (gv_in ha (fun b z => z.2) ⟨_, hrf⟩)
      have yL : ∀ (i : Nat) (qq : KG) (yy : Addr), Rp H m (n - 3) (fun b => (Z b ∧ b ≠ a) ∧ b ≠ ia) qq.2 (.ref yy) → Gv m n (fun b => (Z b ∧ b ≠ a) ∧ b ≠ ia) (upd H a (.frz od (.dK es))) (.ref yy) := fun i qq yy r => gv_up (by omega) (Nat.le_refl _) (fun _ z => z) (gv_in ha (fun b z => z.1.2) ⟨_, r⟩)
      generalize upd H a (.frz od (.dK es)) = HL at mv pL qL xL iL aL fL yL g' ⊢
      have LS : ¬ HL S = none := fun z => (mv.a.someS z).1 rfl
      have Lc : ¬ HL c = none := fun z => (mv.a.someS z).2 rfl
      refine q_asgM fun p2 hp2 => ?_
      have p2S := mv.z.someS hp2
      have p2L : HL p2 = none := mv.back hp2
      have n2p : p2 ≠ p := fun z => by rw [z, hp'] at hp2; cases hp2
      have n2q : p2 ≠ q := fun z => by rw [z, hq'] at hp2; cases hp2
      have n2i : p2 ≠ ia := fun z => by rw [z, iL] at p2L; cases p2L
      have mv5 : Mv S c HL (upd H' p2 (.dK [])) := mv.tx (Ex.new hp2)
      have p25 : (upd H' p2 (.dK [])) p2 = some (.dK []) := upd_same
      have q5 : (upd H' p2 (.dK [])) q = some (.lst (ks.map V.str)) := Ex.new hp2 _ _ hq'
      have p5 : (upd H' p2 (.dK [])) p = some (.dK es2) := Ex.new hp2 _ _ hp'
      have h'a := mv.fr a _ aS ac aL
      have h'x := mv.fr x _ xS xc xL
      have h'i := mv.fr ia _ iS ic iL
      have nqi : q ≠ ia := fun z => by rw [z, iL] at qL; cases qL
      have npi : p ≠ ia := fun z => by rw [z, iL] at pL; cases pL
      refine for_lock (J := fun od2 => Itk ia od2 ies) (xs := fun _ => none) (d := ia) (es := ies) (mv5.fr ia _ iS ic iL) (fun od2 R r => ⟨_, rfl, _, rfl, a, .ref x, rfl, .inl ⟨es, Sum.inr (nmK pe.1), .inr ⟨od, (by rw [upd_ne nia.symm]; exact mv5.fr a _ aS ac aL)⟩, rfl, hvj.symm⟩, x, _, rfl, .inl ⟨xes, Sum.inr "inner", .inl (by rw [upd_ne nix.symm]; exact mv5.fr x _ xS xc xL), rfl, hiv.symm⟩, ia, od2, rfl, .inl ⟨ies, upd_same, r⟩⟩) (fun od2 => walk_keys)
        (fun od2 i σ' H6 => ∃ (o6 : Option V) (es3 : List (Key × V)), σ' = [some (.ref S), some (.ref a), some (.ref q), some (.ref p), some (.str (nmK pe.1)), some (.ref p2), o6] ∧ Mv S c (upd H' ia (.frz od2 (.dK ies))) H6 ∧ H6 p2 = some (.dK es3) ∧ Ge m n (fun b => ((((Z b ∧ b ≠ a) ∧ b ≠ ia) ∧ b ≠ p) ∧ b ≠ p2)) H6 es3 ∧ es3.length ≤ i)
        (fun od2 => ⟨_, [], rfl, mv_both iS ic (.ex mv.z (Ex.new hp2)), by rw [upd_ne n2i]; exact p25, ⟨List.nodup_nil, (fun e he => nomatch he)⟩, Nat.le_refl _⟩) (fun od2 i σ' H6 _ ⟨_, _, _, m6, _⟩ => m6.fr ia _ iS ic upd_same) (fun od2 i x2 σ' H3' H6 hlt2 pv2 y2 => ?_) fun od2 σ' H6 pv2 => ?_
      · obtain ⟨o6', es3, rfl, m6, p26, g6, l6⟩ := pv2
        obtain ⟨rfl, kk2, vk, hkv2, rfl⟩ := y2
        have hq2 : li[i]? = some (li[i]'(by omega)) := List.getElem?_eq_getElem (by omega)
        generalize li[i]'(by omega) = qq at hq2
        obtain ⟨yy, yes, gv, hies, hqk, _, hy, hry, hgv, hrg⟩ := hin i qq hq2
        obtain ⟨rfl, rfl⟩ := Prod.mk.inj (Option.some.inj (hkv2.symm.trans hies))
        have hvk : valV ies (Sum.inr (nmK qq.1) : Key) = some (.ref yy) := by
          have := valV_atK (by rw [eki]; exact okki.1) hies
          rw [hqk] at this
          exact this
        have hks2 : kV qq.1 = V.str (nmK qq.1) := congrArg kV hqk
        rw [hks2]
        have a6 := m6.fr a _ aS ac (by rw [upd_ne nia.symm]; exact h'a)
        have x6 := m6.fr x _ xS xc (by rw [upd_ne nix.symm]; exact h'x)
        have i6 := m6.fr ia _ iS ic upd_same
        have q6 := m6.fr q _ qS.1 qS.2 (by rw [upd_ne nqi]; exact hq')
        have gy : Gv m n (fun b => ((((Z b ∧ b ≠ a) ∧ b ≠ ia) ∧ b ≠ p) ∧ b ≠ p2)) (upd H' ia (.frz od2 (.dK ies))) (.ref yy) := gv_in h'i (fun b z => z.1.1.2) (gv_ne hp2 (gv_mv (Z := fun b => ((Z b ∧ b ≠ a) ∧ b ≠ ia) ∧ b ≠ p) mv (fun z => nZS z.1.1.1) (fun z => nZc z.1.1.1) (gv_ne pL (yL i qq yy hry))))
        have nLp2 : (upd H' ia (.frz od2 (.dK ies))) p2 = none := by rw [upd_ne n2i]; exact hp2
        refine (ev_get (ev_get (ev_get (Evl.ev_var rfl) (Evl.ev_var rfl) (.inr ⟨od, a6⟩) hvj) Evl.ev_c (.inl x6) hiv) (Evl.ev_var rfl) (.inr ⟨od2, i6⟩) hvk) _ (Ex.refl _) _ fun H7 e7 => ⟨_, rfl, t_pickL (xs := ks.map V.str) (e7 _ _ q6) qS (Evl.ev_var rfl) (Evl.ev_var rfl) (ev_lenL (Evl.ev_var rfl) (.inl (Evl.sq_of (e7 _ _ q6)))) (m6.tx e7).z (by rw [List.length_map]; exact ks0p) (by rw [List.length_map]; omega) fun H8 vk m8 hm => ?_⟩
        obtain ⟨s, hs, rfl⟩ := List.mem_map.mp hm
        have m68 := (Mv.ex m6.z e7).trans m8
        have p28 := m68.fr p2 _ p2S.1 p2S.2 p26
        obtain ⟨g9, l9⟩ := ge_put (k := (Sum.inr s : Key)) (ge_imp g6 (fun _ h => gv_mv m68 (fun z => nZS z.1.1.1.1) (fun z => nZc z.1.1.1.1) h) (Nat.le_refl _)) (szk s hs) (gv_mv (m6.trans m68) (fun z => nZS z.1.1.1.1) (fun z => nZc z.1.1.1.1) gy)
        exact ⟨p2, _, rfl, .inl ⟨es3, Sum.inr s, p28, rfl, Evl.sz_lt (by omega), rfl⟩, _, _, rfl, (m6.trans m68).mut nLp2, upd_same, ge_imp g9 (fun _ h => gv_upd p28 (fun _ z => nomatch z) (fun b z => z.2) h) (Nat.le_refl _), by omega⟩
      · obtain ⟨o6', es3, rfl, m6, p26, g6, l6⟩ := pv2
        have i6 := m6.fr ia _ iS ic upd_same
        have mU : Mv S c H' (upd H6 ia (.dK ies)) := mv_unlock h'i iS ic m6
        have p29 : (upd H6 ia (.dK ies)) p2 = some (.dK es3) := by rw [upd_ne n2i]; exact p26
        have g63 : Ge m n (fun b => ((((Z b ∧ b ≠ a) ∧ b ≠ ia) ∧ b ≠ p) ∧ b ≠ p2)) (upd H6 ia (.dK ies)) es3 := ge_imp g6 (fun _ h => gv_upd i6 (fun _ z => nomatch z) (fun b z => z.1.1.2) h) (Nat.le_refl _)
        generalize upd H6 ia (.dK ies) = H9 at mU p29 g63 ⊢
        have mL := mv.trans mU
        have p9 := mU.fr p _ pS.1 pS.2 hp'
        have q9 := mU.fr q _ qS.1 qS.2 hq'
        have g9 : Ge m (n + 2) (fun b => ((Z b ∧ b ≠ a) ∨ HL b = none) ∧ b ≠ p) H9 es2 := ge_imp g' (fun _ h => gv_mv mU (fun z => z.1.elim (fun z => nZS z.1) LS) (fun z => z.1.elim (fun z => nZc z.1) Lc) h) (Nat.le_refl _)
        have gf : Gv m (n + 1) (fun b => ((Z b ∧ b ≠ a) ∨ HL b = none) ∧ b ≠ p) H9 fv := gv_up (Nat.le_succ _) (Nat.le_refl _) (fun b hb => ⟨.inl hb.1, hb.2⟩) (gv_mv (Z := fun b => (Z b ∧ b ≠ a) ∧ b ≠ p) mL (fun z => nZS z.1.1) (fun z => nZc z.1.1) (gv_ne pL fL))
        have gi : Gv m (n + 1) (fun b => ((Z b ∧ b ≠ a) ∨ HL b = none) ∧ b ≠ p) H9 (.ref p2) := gv_dic p29 ⟨.inr p2L, n2p⟩ (by omega) (ge_imp g63 (fun _ h => gv_up (Nat.le_refl _) (Nat.le_refl _) (fun b hb => ⟨⟨.inl hb.1.1.1, hb.1.2⟩, hb.2⟩) h) (Nat.le_refl _))
        refine s_dputM ((ep_d2g (σ := [some (.ref S), some (.ref a), some (.ref q), some (.ref p), some (.str (nmK pe.1)), some (.ref p2), o6']) (t1 := tDGet (tDGet (tVar 1) (tVar 4)) (tC (.str "fields"))) (t2 := tVar 5) (n := n + 1) nFI (by show 6 ≤ m; omega) (by show 5 ≤ m; omega) (by omega) (fun b hb => ⟨.inr (mL.back hb), fun z => by rw [z, p9] at hb; cases hb⟩) (ev_get (ev_get (Evl.ev_var rfl) (Evl.ev_var rfl) (.inr ⟨od, mL.fr a _ aS ac aL⟩) hvj) Evl.ev_c (.inl (mL.fr x _ xS xc xL)) hfv) (Evl.ev_var rfl) gf gi) _ (Ex.refl _) _ fun vd H10 e10 gd => ?_)
        have p10 := e10 _ _ p9
        obtain ⟨g11, l11⟩ := ge_put (k := (Sum.inr (nmK pe.1) : Key)) (ge_imp g9 (fun _ h => gv_ex e10 h) (Nat.le_refl _)) lp gd
        exact ⟨_, rfl, _, rfl, p, _, rfl, .inl ⟨es2, Sum.inr (nmK pe.1), p10, rfl, Evl.sz_lt (by omega), rfl⟩, _, _, _, _, rfl, (mL.tx e10).mut pL, by rw [upd_ne npq.symm]; exact e10 _ _ q9, upd_same, ge_imp g11 (fun _ h => gv_upd p10 (fun _ z => nomatch z) (fun b z => z.2) h) (Nat.le_refl _), by omega⟩
    · obtain ⟨o4, o5, o6, es2, rfl, mv, hq', hp', g', l'⟩ := pv
      have mU := mv_unlock ha aS ac mv
      have pU : (upd H' a (.dK es)) p = some (.dK es2) := by rw [upd_ne npa]; exact hp'
      have a' := mv.fr a _ aS ac upd_same
      have na : ∀ b, (upd H a (.frz od (.dK es))) b = none → b ≠ a := fun b hb e => by rw [e, upd_same] at hb; cases hb
      have gU : Ge m (n + 2) (fun b => (Z b ∨ H b = none) ∧ b ≠ p) (upd H' a (.dK es)) es2 := ge_imp g' (fun _ h => gv_up (Nat.le_refl _) (Nat.le_refl _) (fun b hb => ⟨hb.1.imp (fun z => z.1) (fun z => by rw [upd_ne (na b z)] at z; exact z), hb.2⟩) (gv_upd a' (fun _ z => nomatch z) (fun b z => z.1.elim (fun z => z.2) (na b)) h)) (Nat.le_refl _)
      generalize upd H' a (.dK es) = HU at mU pU gU ⊢
      exact Evl.s_ret (Evl.ev_var rfl) fun H11 e11 => k H11 _ (mU.tx e11) (gv_dic (e11 _ _ pU) (.inr pH) (by omega) (ge_imp gU (fun _ h => gv_ex e11 h) (Nat.le_refl _)))
end
end Pk

namespace Pk
open PySem PySem.Spec PyProof.Rows L2 Ssb
open Evl (Ex Ev EvT EvL EvA EvU)
theorem pair_names {α β : Type} {F : Str × α → Str × β → Prop} {l : List (Str × α)} {s : List (Str × β)} (h : Paired (fun p q => p.1 = q.1 ∧ F p q) l s) : l.map (·.1) = s.map (·.1) := by
  induction h with
  | nil => rfl
  | cons h t ih => rw [List.map_cons, List.map_cons, ih, h.1]
theorem sh_nd : ∀ {s : Sh}, ((rowsS s).map (·.1)).Nodup → (s.map (·.1)).Nodup := fun {s} h => by
  refine List.Sublist.nodup ?_ h
  clear h
  induction s with
  | nil => exact List.Sublist.slnil
  | cons p s ih =>
    have : (rowsS (p :: s)).map (·.1) = p.1 :: ((p.2.2.map fun q => ((q.1, some p.1, q.2) : Ro)).map (·.1) ++ (rowsS s).map (·.1)) := by
      show ((rowsOf p ++ rowsS s).map (·.1)) = _
      rw [List.map_append]; rfl
    rw [this, List.map_cons]
    exact (ih.trans (List.sublist_append_right _ _)).cons_cons _
theorem pair_mem {α β : Type} {F : α → β → Prop} {l : List α} {m : List β} (p : Paired F l m) : ∀ x ∈ l, ∃ y ∈ m, F x y := fun x hx => by
  obtain ⟨t, ht, e⟩ := List.mem_iff_getElem.mp hx
  obtain ⟨b, hb, h⟩ := pair_at p (i := t) (a := x) (by rw [← e]; exact List.getElem?_eq_getElem ht)
  exact ⟨b, List.mem_of_getElem? hb, h⟩
theorem two_cases {l : List (Str × D)} {a b : Str} {x y : D} (ne : a ≠ b) (h2 : l.length = 2) (ha : l.lookup a = some x) (hb : l.lookup b = some y) : l = [(a, x), (b, y)] ∨ l = [(b, y), (a, x)] := by
  match l, h2 with
  | [(j, u), (k, v)], _ =>
    rw [lk_cons] at ha hb
    by_cases c1 : a = j
    · rw [if_pos c1] at ha
      cases ha
      have c2 : ¬ b = j := fun e => ne (c1.trans e.symm)
      rw [if_neg c2, lk_cons] at hb
      by_cases c3 : b = k
      · rw [if_pos c3] at hb
        cases hb
        exact .inl (by rw [c1, c3])
      · rw [if_neg c3] at hb; cases hb
    · rw [if_neg c1, lk_cons] at ha
      by_cases c3 : a = k
      · rw [if_pos c3] at ha
        cases ha
        by_cases c2 : b = j
        · rw [if_pos c2] at hb; cases hb
          exact .inr (by rw [c2, c3])
        · rw [if_neg c2, lk_cons] at hb
          by_cases c4 : b = k
          · exact absurd (c3.trans c4.symm) ne
          · rw [if_neg c4] at hb; cases hb
      · rw [if_neg c3] at ha; cases ha
theorem wd_of {s : Str} (h : isW s) : wdS s = true := by
  obtain ⟨h1, h2, h3⟩ := h
  unfold wdS
  rw [decide_eq_true h1, decide_eq_true h2, Bool.and_self, Bool.true_and]
  refine List.all_eq_true.mpr fun c hc => ?_
  rw [decide_eq_true (h3 c hc).1, decide_eq_true (h3 c hc).2]; rfl
theorem lk_emb : ∀ {l : List (Str × D)} {k : Str}, lkG (embD l) (Sum.inr k) = (l.lookup k).map emb
  | [], k => by rw [embD]; rfl
  | (j, d) :: l, k => by
    rw [embD, lkG_cons, lk_cons, lk_emb]
    by_cases c : k = j
    · subst c; rw [if_pos rfl, if_pos rfl]; rfl
    · rw [if_neg (fun e => c (Sum.inr.inj e).symm), if_neg c]
theorem embD_len (l : List (Str × D)) : (embD l).length = l.length := by rw [embD_eq, List.length_map]
theorem embD_mem {l : List (Str × D)} {q : KG} (h : q ∈ embD l) : ∃ p ∈ l, q = (Sum.inr p.1, emb p.2) := by
  rw [embD_eq] at h
  obtain ⟨p, hp, e⟩ := List.mem_map.mp h
  exact ⟨p, hp, e.symm⟩
theorem entry_emb {ti : G → Bool} {p : Str × D} {l : List (Str × D)} {a b : D} (hw : isW p.1) (e : p.2 = .dic l) (h2 : l.length = 2) (ha : l.lookup ("fields" : Str) = some a) (hb : l.lookup ("inner" : Str) = some b) (ht : ti (emb b) = true) : entryOk ti ((Sum.inr p.1, emb p.2) : KG) = true := by
  have e1 : emb p.2 = .dic (embD l) := by rw [e, emb]
  have e2 : atG (emb p.2) "inner" = emb b := by
    rw [e1]
    show (lkG (embD l) (Sum.inr ("inner" : Str))).getD .non = _
    rw [lk_emb, hb]; rfl
  unfold entryOk
  show (wdS p.1 && (hasN (emb p.2) ["fields", "inner"] && ti (atG (emb p.2) "inner"))) = true
  rw [wd_of hw, e2, ht, e1, has_two, embD_len, decide_eq_true h2, lk_emb, lk_emb, ha, hb]; rfl
theorem listed_emb {ti : G → Bool} {l : List (Str × D)} {mo : Int} (hl : (l.length : Int) ≤ mo) (h : ∀ p ∈ l, entryOk ti ((Sum.inr p.1, emb p.2) : KG) = true) : listedG ti (.dic (embD l)) mo = true := by
  unfold listedG
  show (decide (((embD l).length : Int) ≤ mo) && (embD l).all (entryOk ti)) = true
  rw [embD_len, decide_eq_true hl, Bool.true_and]
  refine List.all_eq_true.mpr fun q hq => ?_
  obtain ⟨p, hp, rfl⟩ := embD_mem hq
  exact h p hp
theorem lists_emb {d : D} {s : Sh} (h : shD d s) (hz : okSh s) : ∃ l, emb d = .dic l ∧ listsG (.dic l) = true := by
  obtain ⟨l, rfl, pr⟩ := h
  refine ⟨embD l, by rw [emb], ?_⟩
  rw [lists_listed]
  refine listed_emb (by rw [pair_len pr]; have := hz.1; omega) fun p hp => ?_
  obtain ⟨q, hq, h1, l', e, ep, l2, lf, li, pe⟩ := pair_mem pr p hp
  obtain ⟨w1, okf, i1, iok⟩ := hz.2.2 q hq
  have h1 : p.1 = q.1 := h1
  refine entry_emb (by rw [h1]; exact w1) ep l2 lf li ?_
  rw [emb]
  refine listed_emb (by rw [pair_len pe]; omega) fun p2 hp2 => ?_
  obtain ⟨q2, hq2, h3, l3, ep3, l32, l3f, l3i⟩ := pair_mem pe p2 hp2
  have h3 : p2.1 = q2.1 := h3
  refine entry_emb (by rw [h3]; exact (iok q2 hq2).1) ep3 l32 l3f l3i ?_
  rw [emb, embD]; rfl
theorem sz_str {n : Nat} {x : Str} (h : isW x) : szD 16 n (.str x) := by
  cases n with
  | zero => trivial
  | succ n => exact Nat.le_trans h.2.1 (by decide)
theorem sz_two {n : Nat} {l : List (Str × D)} {x y : D} (h2 : l.length = 2) (ha : l.lookup ("fields" : Str) = some x) (hb : l.lookup ("inner" : Str) = some y) (hx : szD 16 n x) (hy : szD 16 n y) : szD 16 (n + 1) (.dic l) := by
  rcases two_cases nFI h2 ha hb with rfl | rfl
  · refine ⟨by show 2 ≤ 16; decide, ?_, fun p hp => ?_⟩
    · show ((["fields", "inner"] : List Str)).Nodup
      decide +kernel
    · rcases List.mem_cons.mp hp with rfl | hp
      · exact ⟨by show 6 ≤ 16; decide, hx⟩
      · rw [List.mem_singleton.mp hp]; exact ⟨by show 5 ≤ 16; decide, hy⟩
  · refine ⟨by show 2 ≤ 16; decide, ?_, fun p hp => ?_⟩
    · show ((["inner", "fields"] : List Str)).Nodup
      decide +kernel
    · rcases List.mem_cons.mp hp with rfl | hp
      · exact ⟨by show 5 ≤ 16; decide, hy⟩
      · rw [List.mem_singleton.mp hp]; exact ⟨by show 6 ≤ 16; decide, hx⟩
theorem sz_fl {n : Nat} {f : Fl} (h : okFl f) : szD 16 n (flD f) := by
  cases n with
  | zero => trivial
  | succ n =>
    refine ⟨by rw [List.length_map]; have := h.1; omega, by rw [List.map_map]; exact h.2.1, fun p hp => ?_⟩
    obtain ⟨q, hq, rfl⟩ := List.mem_map.mp hp
    obtain ⟨w1, w2, w3, w4, _⟩ := h.2.2 q hq
    refine ⟨Nat.le_trans w1.2.1 (by decide), ?_⟩
    cases n with
    | zero => trivial
    | succ n =>
      refine ⟨by rw [List.length_map]; omega, fun x hx => ?_⟩
      obtain ⟨s, hs, rfl⟩ := List.mem_map.mp hx
      exact sz_str (w4 s hs)
theorem sz_sh {d : D} {s : Sh} (h : shD d s) (hz : okSh s) : szD 16 7 d := by
  obtain ⟨l, rfl, pr⟩ := h
  refine ⟨by rw [pair_len pr]; have := hz.1; omega, by rw [pair_names pr]; exact sh_nd hz.2.1, fun p hp => ?_⟩
  obtain ⟨q, hq, h1, l', e, ep, l2, lf, li, pe⟩ := pair_mem pr p hp
  obtain ⟨w1, okf, i1, iok⟩ := hz.2.2 q hq
  have h1 : p.1 = q.1 := h1
  refine ⟨by rw [h1]; exact Nat.le_trans w1.2.1 (by decide), ?_⟩
  rw [ep]
  refine sz_two l2 lf li (sz_fl okf) ⟨by rw [pair_len pe]; omega, ?_, fun p2 hp2 => ?_⟩
  · rw [pair_names pe]
    match q.2.2, i1 with
    | [], _ => exact List.nodup_nil
    | [x], _ => simp
  · obtain ⟨q2, hq2, h3, l3, ep3, l32, l3f, l3i⟩ := pair_mem pe p2 hp2
    have h3 : p2.1 = q2.1 := h3
    obtain ⟨w2, okf2⟩ := iok q2 hq2
    refine ⟨by rw [h3]; exact Nat.le_trans w2.2.1 (by decide), ?_⟩
    rw [ep3]
    exact sz_two l32 l3f l3i (sz_fl okf2) ⟨Nat.zero_le _, List.nodup_nil, fun p hp => nomatch hp⟩
section
variable {P : Program} {w : World} {K : PySem.W.Frag} {mg : Str → Option Value} {base : Heap} {C_Shape C_InvalidShape C_InvalidData C_StayError : Addr}
/-- Shape(flags, lists) of any data -/
def spInitB (C CE : Addr) : Sp := fun vs H Q E => spInitX CE vs H Q E ∨ spInitG C vs H Q E
theorem ok_Shape_initB (T : Txt K mg C_Shape C_InvalidShape C_InvalidData C_StayError) (R : Prg K mg C_Shape C_InvalidShape C_InvalidData C_StayError) : ∃ f fd, MtX P w K mg base C_Shape "__init__" 6 ["self", "flags", "lists"] (spInitB C_Shape C_InvalidShape) f fd := by
  obtain ⟨_, _, G_wrong_part⟩ := ok_wrong_part (P := P) (w := w) (base := base) T R
  obtain ⟨_, _, G_list_rows⟩ := ok_list_rows (P := P) (w := w) (base := base) T R
  obtain ⟨_, _, G_InvalidShape, tI⟩ := ok_InvalidShape_init (P := P) (w := w) (base := base) T R
  obtain ⟨f, fd, F, fi, isf, kp⟩ := R.Shape_init
  refine ⟨f, fd, F.okX sc_Shape_init (fun vs H Q E h => ?_) (fun cdv A outer s H vs Q E hr h => ?_), ⟨fi, isf, kp⟩, F.binds (fun _ _ _ _ _ _ us hl => match us, hl with | [_, _, _], _ => rfl)⟩
  · rcases h with h | h
    · obtain ⟨p, v1, v2, m, n, S1, S2, g1, g2, part, rfl, _⟩ := h; rfl
    · obtain ⟨p, dx, v1, v2, m, n, S1, S2, g1, g2, rfl, _⟩ := h; rfl
  rcases h with h | h
  · obtain ⟨p, v1, v2, m, n, S1, S2, g1, g2, part, rfl, h1, h2, hm, hw, k⟩ := h
    refine ⟨_, (pss_cons (ps_set (i := 3) sc_Shape_init.nd rfl (Or.inl rfl) (pcl G_wrong_part hr (pa_cons (pv 1) (pa_cons (pv 2) pa_nil))))
      (pss_cons (ps_if (pt_cmpR op_notN (pv 3) pe_non (nomark _)) (pss_one (ps_raise rfl (takes_of rfl rfl rfl rfl) (pmk_oexE T.ox_InvalidShape G_InvalidShape tI hr T.at_InvalidShape (pa_cons (pv 3) pa_nil)))) pss_nil) pss_never)), ?_⟩
    refine ⟨_, rfl, _, rfl, v1, v2, m, n, S1, S2, g1, g2, rfl, h1, h2, hm, fun H1 e1 => ?_⟩
    rw [hw]
    refine ⟨_, rfl, rfl, _, rfl, iteT ?_⟩
    refine ⟨_, rfl, (by show 1 ≤ 1000; decide), fun a ha => ⟨a, .str part, rfl, upd_same, fun d hd ne => ⟨rfl, d, [("part", .str part)], upd_same, ?_, ?_, ?_⟩⟩⟩
    · rw [upd_ne ne, upd_same]
    · rw [upd_ne ne] at hd; exact hd
    · rw [upd_ne ne] at hd
      rw [made_heap ha hd ne]
      exact k H1 d e1 hd
  · obtain ⟨p, dx, v1, v2, m, n, S1, S2, g1, g2, rfl, hp, h1, h2, nSp, hm, hw, k⟩ := h
    obtain ⟨⟨l1, hi, hw1⟩, l, rfl, hl, hfs, hnd⟩ := wrong_none hw
    have r4 := rows_four hl
    refine ⟨_, (pss_cons (ps_set (i := 3) sc_Shape_init.nd rfl (Or.inl rfl) (pcl G_wrong_part hr (pa_cons (pv 1) (pa_cons (pv 2) pa_nil))))
  (pss_cons (ps_if (pt_cmpR op_notN (pv 3) pe_non (nomark _)) (pss_one ps_never) pss_nil)
  (pss_cons (ps_fld (pv 0) (pe_callTy (r := rTupA K) call_tuple_of (by rfl) T.tuple (by decide +kernel) (pa_cons (pe_callB (r := rSortedS K) cr_sortedS (by rfl) T.sorted (by decide +kernel) (pa_cons (pe_callTy (r := rListA K) call_list_of (by rfl) T.list (by decide +kernel) (pa_cons (pv 1) pa_nil)) pa_nil)) pa_nil)) rfl)
  (pss_one (ps_fld (pv 0) (pe_dc (own := [("name", 4), ("parent", 5), ("fields", 6)]) rfl sc_Shape_init.nd (show PI _ _ _ (iList K _) from pi_list (pcl G_list_rows hr (pa_cons (pv 2) pa_nil))) (blkOk_by (own := [("name", 4), ("parent", 5), ("fields", 6)]) (N := ["self", "flags", "lists", "part", "name", "parent", "fields"]) (sc := defScope s_Shape_init) (by decide +kernel)) (fun _ _ _ _ _ => (show PG _ _ (gTup K 3 _) from pg_tup (n := 3) rfl (pgs_cons (pg_name (i := 4) sc_Shape_init.nd rfl (Or.inl rfl)) (pgs_cons (pg_name (i := 5) sc_Shape_init.nd rfl (Or.inl rfl)) (pgs_cons (pg_name (i := 6) sc_Shape_init.nd rfl (Or.inl rfl)) pgs_nil))))) (fun _ _ _ _ _ => pts_nil) (fun _ _ _ _ _ => (pv 4)) (fun _ _ _ _ _ => (pe_tup (pa_cons (pv 5) (pa_cons (pe_callTy call_dictD (by rfl) T.dict (by decide +kernel) (pa_cons (pv 6) pa_nil)) pa_nil))))) rfl))))), ?_⟩
    refine ⟨_, rfl, _, rfl, v1, v2, m, n, S1, S2, g1, .dic l, rfl, h1, h2, hm, fun H1 e1 => ?_⟩
    rw [hw]
    refine Evl.q_when (b := false) (Evl.et_is (Evl.et_test (Evl.ev_op (Evl.ev_var rfl) Evl.ev_c rv_notN)) rfl) (fun h => nomatch h) fun _ H2 e2 => ?_
    have e12 := e1.trans e2
    obtain ⟨k2, a, xs, rfl, rfl, hs, hlen, pr⟩ := itsG_of (K := K) hi h1
    have hw2 : (decide ((0 : Int) ≤ (l1.length : Int)) && decide ((l1.length : Int) ≤ 2)) = true ∧ (l1.all wdG && decide (strsG l1).Nodup) = true := by
      unfold wordsL at hw1; rw [Bool.and_eq_true] at hw1; exact hw1
    have few : l1.length ≤ 2 := by
      have := hw2.1
      simp only [Bool.and_eq_true, decide_eq_true_eq] at this; omega
    have c2 : l1.all wdG = true := by have := hw2.2; rw [Bool.and_eq_true] at this; exact this.1
    have el := words_strs c2
    have ls : (strsG l1).length = l1.length := by conv => rhs; rw [el]; rw [List.length_map]
    have ex : xs = (strsG l1).map V.str := by
      rw [el] at pr
      clear c2 few ls el hlen hs hw1 hw2 hi h1
      generalize strsG l1 = ws at pr
      induction ws generalizing xs with
      | nil => cases pr; rfl
      | cons y ws ih =>
        cases pr with
        | cons h t =>
          obtain ⟨n, rfl⟩ := rp_pos h
          rw [ih _ t, show _ = V.str y from h.1]; rfl
    subst ex
    refine ⟨_, rfl, a, (strsG l1).map V.str, rfl, hs.imp (Evl.ex_l e12) (Evl.ex_t e12), fun q hq => ?_⟩
    refine ⟨q, strsG l1, rfl, Evl.sq_of upd_same, by omega, fun ys q2 perm so hq2 => ?_⟩
    refine ⟨q2, ys.map V.str, rfl, .inl ⟨Evl.sq_of upd_same, fun ft hft => ?_⟩⟩
    have e3 : Ex H2 (upd (upd (upd H2 q (.lst ((strsG l1).map V.str))) q2 (.lst (ys.map V.str))) ft (.tup (ys.map V.str))) := (Ex.new hq).trans ((Ex.new hq2).trans (Ex.new hft))
    have e03 := e12.trans e3
    generalize (upd (upd (upd H2 q (.lst ((strsG l1).map V.str))) q2 (.lst (ys.map V.str))) ft (.tup (ys.map V.str))) = H3 at e3 e03 ⊢
    refine ⟨_, rfl, p, C_Shape, dx, [], rfl, e03 _ _ hp, T.cl_Shape, T.no_Shape_flags, (by show 0 < 1000; decide), ?_⟩
    have e4 : ∀ b o, b ≠ p → H b = some o → (upd H3 p (.ins C_Shape dx (putF "flags" (.ref ft) []))) b = some o := fun b o nb hb => by rw [upd_ne nb]; exact e03 _ _ hb
    have hv4 : Rp (upd H3 p (.ins C_Shape dx (putF "flags" (.ref ft) []))) m (k2 + 1) S2 (.dic l) v2 := rp_to (fun b o hb hs => e4 b o (fun e => by
      rcases hs with hs | ⟨xs, rfl⟩
      · rw [e] at hs; exact nSp hs
      · rw [e, hp] at hb; cases hb) hb) h2
    have hp4 : (upd H3 p (.ins C_Shape dx (putF "flags" (.ref ft) []))) p = some (.ins C_Shape dx (putF "flags" (.ref ft) [])) := upd_same
    generalize (upd H3 p (.ins C_Shape dx (putF "flags" (.ref ft) []))) = H4 at e4 hv4 hp4 ⊢
    refine ⟨_, rfl, v2, m, _, S2, l, rfl, hv4, hl, fun H5 rp xs e5 nrp hrp hrows => ?_⟩
    have lx := pair_len hrows
    refine ⟨rp, rfl, ⟨xs, Evl.sq_of hrp⟩, fun Dl hD => ?_⟩
    refine ⟨fun i mm H' => mm = xs.length - i ∧ i ≤ xs.length ∧ Ex H5 H' ∧ ∃ es, H' Dl = some (.dK es) ∧ (es.map fun e : Key × V => e.1) = (((rowsG l).map fun r : RoG => r.1).take i).map Sum.inr, ⟨xs.length, by simp, Nat.zero_le _, Ex.new hD, [], upd_same, rfl⟩, ?_⟩
    rintro i mm H' ⟨rfl, hi2, e6, es, hes, pes⟩
    have sq : SqL K H' rp xs := Evl.sq_of (e6 _ _ hrp)
    by_cases hlt : i < xs.length
    · refine .inr ⟨⟨xs, xs[i], sq, by simp [hlt]⟩, fun H' => Ex H5 H' ∧ ∃ es, H' Dl = some (.dK es) ∧ (es.map fun e : Key × V => e.1) = (((rowsG l).map fun r : RoG => r.1).take (i + 1)).map Sum.inr, fun H' p' => ⟨xs.length - (i + 1), by omega, rfl, hlt, p'⟩, fun x H'' y => ?_⟩
      obtain ⟨rfl, y⟩ := y
      obtain ⟨r, hr1, ra, fv, rfl, hra, hfv⟩ := pair_back hrows (y xs sq)
      have hff := hfs r (List.mem_of_getElem? hr1)
      have hnm : named r.2.2 2 = true := by unfold fieldsG at hff; rw [Bool.and_eq_true] at hff; exact hff.1
      obtain ⟨fl, efl, _, _⟩ := named_at hnm
      rw [efl] at hfv
      obtain ⟨_, fa, fes, _, rfl, _, hfa, _⟩ := rp_dic (rp_ex (e5.trans e6) hfv)
      refine ⟨ra, _, rfl, Evl.st_of (e6 _ _ hra), rfl, _, _, rfl, _, _, rfl, _, _, rfl, rfl, rfl, ?_⟩
      refine yes_go ?_
      refine ⟨_, rfl, _, rfl, _, rfl, fa, fes, rfl, .inl hfa, fun fb hfb => ⟨(by show 2 ≤ sizeLine; decide), fun tp htp => ?_⟩⟩
      have e7 : Ex H'' (upd (upd H'' fb (.dK fes)) tp (.tup [oVG r.2.1, .ref fb])) := (Ex.new hfb).trans (Ex.new htp)
      have nfD : fb ≠ Dl := fun e => by rw [e, hes] at hfb; cases hfb
      have nDt : Dl ≠ tp := fun e => by rw [← e, upd_ne (Ne.symm nfD), hes] at htp; cases htp
      have hrn : ((rowsG l).map fun r : RoG => r.1)[i]? = some r.1 := by rw [List.getElem?_map, hr1]; rfl
      have ntab : valV es (Sum.inr r.1 : Key) = none := vK_no (by
        rw [pes]
        intro hm
        obtain ⟨z, hz, ez⟩ := List.mem_map.mp hm
        have ez := Sum.inr.inj ez
        subst ez
        have := List.take_append_drop i ((rowsG l).map fun r : RoG => r.1)
        rw [← this] at hnd
        have h3 := (List.nodup_append.mp hnd).2.2 _ hz r.1 (by
          rw [List.drop_eq_getElem_cons (by have := (List.getElem?_eq_some_iff.mp hrn).1; exact this)]
          have : ((rowsG l).map fun r : RoG => r.1)[i]'((List.getElem?_eq_some_iff.mp hrn).1) = r.1 := (List.getElem?_eq_some_iff.mp hrn).2
          rw [this]; exact List.mem_cons_self)
        exact h3 rfl)
      have hes2 : (upd (upd H'' fb (.dK fes)) tp (.tup [oVG r.2.1, .ref fb])) Dl = some (.dK es) := by rw [upd_ne nDt, upd_ne (Ne.symm nfD)]; exact hes
      have les : es.length ≤ 4 := by
        have := congrArg List.length pes
        simp only [List.length_map, List.length_take] at this
        omega
      refine ⟨es, Sum.inr r.1, rfl, hes2, Evl.sz_lt (by omega), Ex.mut (e6.trans e7) hD, es ++ [(Sum.inr r.1, .ref tp)], by rw [upd_same, putK_new _ ntab], ?_⟩
      rw [List.map_append, pes, take_snocG hrn, List.map_append]; rfl
    · have ei : i = xs.length := by omega
      subst ei
      refine .inl ⟨⟨xs, sq, Nat.le_refl _⟩, _, rfl, p, C_Shape, dx, _, rfl, e6 _ _ (e5 _ _ hp4), T.cl_Shape, T.no_Shape_table, (by show 1 < 1000; decide), ?_⟩
      exact k _ _ (fun b o nb hb => by rw [upd_ne nb]; exact e6 _ _ (e5 _ _ (e4 b o nb hb))) upd_same
end
end Pk

namespace Pk
open PySem PySem.Spec PyProof.Rows L2 Ssb
open Evl (Ex Ev EvT EvL EvA EvU)
def noneX : WX := fun _ _ _ _ => False
theorem takes_none {X : Cx} : Takes X noneX := fun u s' ⟨_, _, _, _, _, _, _, _, _, _, _, _, _, _, _, _, w⟩ => w.elim
def mm : Nat → Nat
  | 0 => 16
  | n + 1 => 3 * mm n + 3
theorem mm_le : ∀ {i : Nat}, i ≤ 3 → 16 ≤ mm i ∧ mm i ≤ 600
  | 0, _ => by decide
  | 1, _ => by decide
  | 2, _ => by decide
  | 3, _ => by decide
  | n + 4, h => by omega
theorem wrong_len {g1 g2 : G} {part : Str} (h : wrongG g1 g2 = some part) : part.length ≤ 6 := by
  unfold wrongG at h
  split at h
  · cases h; decide
  split at h
  · cases h; decide
  split at h
  · cases h; decide
  split at h
  · cases h
  · cases h; decide
theorem s_asgS {te : TE} {g : TG} {D : Ends} {σ : L2.St} {H : Hp} (h : te σ H fun v H1 => g v σ H1 D.nx) : tAsg te g D σ H := h
theorem tspoilU {n N : Nat} {σ : L2.St} {H : Hp} {S c : Addr} {v : V} {m : Nat} {Z : Addr → Prop} {tS tv : TE} {Q : VK} (hn : n ≤ N) (hS : Ev tS σ H (.ref S)) (hv : Ev tv σ H v) (st : StAt H S c) (g : Gv m n Z H v) (z1 : ¬ Z S) (z2 : ¬ Z c) (m1 : 16 ≤ m) (m2 : m ≤ 12000)
    (q : ∀ H' v', Mv S c H H' → Gv (3 * m + 3) (n + 11) (fun b => Z b ∨ H b = none) H' v' → Q v' H') : tCall (spSpoilU N) [] E0 (tCons tS (tCons tv tNil)) σ H Q :=
  hS H (Ex.refl _) _ fun H1 e1 => hv H1 e1 _ fun H2 e2 => ⟨n, hn, S, c, v, m, Z, rfl, st.ex (e1.trans e2), gv_ex (e1.trans e2) g, z1, z2, m1, m2, fun H' v' mv g' => q H' v' ((Mv.ex st (e1.trans e2)).trans mv) (gv_up (Nat.le_refl _) (Nat.le_refl _) (fun b hb => hb.imp id fun z => Evl.fresh_back (e1.trans e2) z) g')⟩
theorem main_ok {l : PySem.W.OpenLaw} {w : World} {K : PySem.W.Frag} {mg : Str → Option Value} {fa C_Shape C_InvalidShape C_InvalidData C_StayError : Addr} (T : Txt K mg C_Shape C_InvalidShape C_InvalidData C_StayError) (R : Prg K mg C_Shape C_InvalidShape C_InvalidData C_StayError) (hfa : mg "law" = some (.ref fa)) :
    ∃ fd : FuncData, (∀ (s : Shared) (v : Value), BindsTo s fd ⟨[v], []⟩ [("_law_script", v)]) ∧ ∀ base : Heap, K.In base → base.Ns mainGlobals mg → FnOk l.prog w K mg base CX0 60 fa fd ["_law_script"] (spLaw K) := by
  obtain ⟨f, fd, at_, F, kp⟩ := R.law
  have e := hfa.symm.trans at_
  cases e
  obtain ⟨oc, od, kV, doc, pm, an, cdv0, ct, osl, rfl, lk, hcd⟩ := F.ex
  refine ⟨PySem.W.fnOf "law" "law" (defArgs s_law) (defBody s_law) (defScope s_law) .none kV doc pm an cdv0 ct, fun s v => .of_eq rfl, fun base _ _ => ?_⟩
  obtain ⟨_, _, G__law_stream⟩ := ok__law_stream (P := l.prog) (w := w) (base := base) T R
  obtain ⟨_, _, G__law_draw⟩ := ok__law_draw (P := l.prog) (w := w) (base := base) T R
  obtain ⟨_, _, G__law_names⟩ := ok__law_names (P := l.prog) (w := w) (base := base) T R
  obtain ⟨_, _, G__law_lists⟩ := ok__law_lists (P := l.prog) (w := w) (base := base) T R
  obtain ⟨_, _, G__law_renamed⟩ := ok__law_renamed (P := l.prog) (w := w) (base := base) T R
  obtain ⟨_, _, G__law_spoil⟩ := ok__law_spoil (P := l.prog) (w := w) (base := base) T R 32
  obtain ⟨_, _, G__law_wrong⟩ := ok__law_wrong (P := l.prog) (w := w) (base := base) T R
  obtain ⟨_, _, G__law_copy⟩ := ok__law_copy (P := l.prog) (w := w) (base := base) T R 44
  obtain ⟨_, _, G__law_same⟩ := ok__law_same (P := l.prog) (w := w) (base := base) T R 44
  obtain ⟨_, _, G_Shape⟩ := ok_Shape_initB (P := l.prog) (w := w) (base := base) T R
  refine F.ok sc_law (fun vs H Q E h => ?_) (fun cdv A outer s H vs Q E hr h => ?_)
  · obtain ⟨a, ns, rfl, _⟩ := h; rfl
  · obtain ⟨a, ns, rfl, hs, _, k⟩ := h
    refine ⟨_, (pss_cons (ps_set (i := 1) sc_law.nd rfl (Or.inl rfl) (pcl G__law_stream hr (pa_cons (pv 0) pa_nil)))
  (pss_cons (ps_set (i := 2) sc_law.nd rfl (Or.inl rfl) (pcl G__law_draw hr (pa_cons (pv 1) (pa_cons pe_int pa_nil))))
  (pss_cons (ps_set (i := 3) sc_law.nd rfl (Or.inl rfl) (pcl G__law_draw hr (pa_cons (pv 1) (pa_cons pe_int pa_nil))))
  (pss_cons (ps_set (i := 4) sc_law.nd rfl (Or.inl rfl) (pcl G__law_names hr (pa_cons (pv 1) (pa_cons (pcl G__law_draw hr (pa_cons (pv 1) (pa_cons pe_int pa_nil))) (pa_cons (pe_lst pa_nil) pa_nil)))))
  (pss_cons (ps_set (i := 5) sc_law.nd rfl (Or.inl rfl) (pcl G__law_lists hr (pa_cons (pv 1) (pa_cons pe_int pa_nil))))
  (Evl.pss_cut (ps_if (pt_cmpR op_eq (pv 3) pe_int (nomark _)) (pss_one (ps_set (i := 5) sc_law.nd rfl (Or.inl rfl) (pcl G__law_renamed hr (pa_cons (pv 1) (pa_cons (pv 5) pa_nil))))) pss_nil)
  (pss_cons (ps_set (i := 6) sc_law.nd rfl (Or.inl rfl) (pe_lst (pa_cons (pv 4) (pa_cons (pv 5) pa_nil))))
  (pss_cons (ps_for PassesOwn.never rfl (pi_range1 (by rfl) T.range (pa_cons (pv 2) pa_nil)) (pg_name (i := 7) sc_law.nd rfl (Or.inl rfl))
    (pss_cons (ps_set (i := 8) sc_law.nd rfl (Or.inl rfl) (pe_callB (call_min2 rfl) (by rfl) T.min (by decide +kernel) (pa_cons pe_int (pa_cons (pcl G__law_draw hr (pa_cons (pv 1) (pa_cons pe_int pa_nil))) pa_nil))))
  (pss_one (ps_asg (pcl G__law_spoil hr (pa_cons (pv 1) (pa_cons (pe_ix (r := rIxL K) ix_list (pv 6) (pv 8) (fun _ _ => rfl)) pa_nil))) (pg_sub (pv 6) (pv 8) set_list)))))
  (pss_cons (ps_set (i := 9) sc_law.nd rfl (Or.inl rfl) (pcl G__law_wrong hr (pa_cons (pe_ix (r := rIxL K) ix_list (pv 6) pe_int (fun _ _ => rfl)) (pa_cons (pe_ix (r := rIxL K) ix_list (pv 6) pe_int (fun _ _ => rfl)) pa_nil))))
  (pss_cons (ps_set (i := 10) sc_law.nd rfl (Or.inl rfl) (pcl G__law_copy hr (pa_cons (pv 6) pa_nil)))
  (pss_cons (ps_set (i := 11) sc_law.nd rfl (Or.inl rfl) pe_non)
  (pss_cons (ps_set (i := 12) sc_law.nd rfl (Or.inl rfl) pe_non)
  (Evl.pss_cut (ps_try_keep2 (i := 13) rfl rfl sc_law.nd rfl rfl ⟨by rfl, by decide, .inl T.at_InvalidData⟩ ⟨by rfl, by decide, .inl T.at_StayError⟩ takes_none (fun W pn xe tk po => pss_one (ps_set (i := 11) sc_law.nd rfl (Or.inl rfl) (pmkX G_Shape tk T.mk_Shape T.kp_Shape T.at_Shape hr (pa_cons (pe_ix (r := rIxL K) ix_list (pv 10) pe_int (fun _ _ => rfl)) (pa_cons (pe_ix (r := rIxL K) ix_list (pv 10) pe_int (fun _ _ => rfl)) pa_nil))))) (fun a oe cls d pn hz hf => pss_one (ps_set (i := 12) sc_law.nd rfl (Or.inl rfl) (pv 13))))
  (pss_cons (ps_if (pt_not (pt_val (pcl G__law_same hr (pa_cons (pv 10) (pa_cons (pv 6) pa_nil))))) pss_never pss_nil)
  (pss_cons (ps_if (pt_cmpR op_isN (pv 9) pe_non (nomark _)) (pss_one (ps_ret (pe_and (pe_cmpR op_isN (pv 12) pe_non (nomark _)) (pe_one (pe_callB (r := rIsi K) call_isi (by rfl) T.isinstance (by decide +kernel) (pa_cons (pv 11) (pa_cons (pe_glob (v := .ref C_Shape) rfl T.at_Shape rfl) pa_nil))))))) pss_nil)
  (pss_one (ps_ret (pe_and (pe_cmpR op_isN (pv 11) pe_non (nomark _)) (pe_and (pe_callB (r := rIsiE K) call_isiE (by rfl) T.isinstance (by decide +kernel) (pa_cons (pv 12) (pa_cons (pe_glob (v := .ref C_InvalidShape) rfl T.at_InvalidShape rfl) pa_nil))) (pe_one (pcl G__law_same hr (pa_cons (pe_fldE T.xk_InvalidShape.xf T.no_InvalidShape_part (pv 12)) (pa_cons (pv 9) pa_nil))))))))))))))))))))))), ?_⟩
    refine ⟨_, rfl, a, ns, rfl, hs, fun H1 S c st => ?_⟩
    refine q_asgM (tdraw (k := 4) (Evl.ev_var rfl) Evl.ev_c st (by decide) (by decide) fun H2 tm m2 t0 t1 => ?_)
    refine q_asgM (tdraw (k := 3) (Evl.ev_var rfl) Evl.ev_c m2.z (by decide) (by decide) fun H3 rn m3 _ _ => ?_)
    refine ⟨_, rfl, _, rfl, S, c, 3, rfl, m3.z, by decide, by decide, fun H4 nf m4 f0 f1 => ⟨(by show 0 ≤ sizeLine; decide), fun t0' ht0 => ⟨S, c, t0', nf, rfl, (Mv.new m4.z ht0).z, f0, by omega, upd_same, fun H5 qf fl m5 hqf hqf5 lf flW fnd => ?_⟩⟩⟩
    have fS := (Mv.new (o := .lst []) m4.z ht0).z.someS hqf
    refine ⟨_, rfl, S, c, rfl, m5.z, fun H6 ql dl z m6 hl hsh okS => ?_⟩
    have hqf6 := m6.fr qf _ fS.1 fS.2 hqf5
    have gF : Gv 16 10 (fun b => b ≠ S ∧ b ≠ c) H6 (.ref qf) := gv_up (n := 2) (by decide) (Nat.le_refl _) (fun _ z => z) (gv_lst hqf6 fS (by rw [List.length_map]; omega) fun x hx => by
      obtain ⟨s, hs, rfl⟩ := List.mem_map.mp hx
      exact gv_str (Nat.le_trans (flW s hs).2.1 (by decide)))
    obtain ⟨ll, ell, hll⟩ := lists_emb hsh okS
    have rL : Rp H6 16 7 (fun b => b ≠ S ∧ b ≠ c) (.dic ll) (.ref ql) := by
      rw [← ell]
      exact rp_emb (rep_S (fun b hb => m5.z.someS hb) hl) (sz_sh hsh okS)
    have st6 := m6.z
    clear hl hsh okS hqf5 m5 m4 hqf m6 m3 m2
    have nZS : ¬ (fun b => b ≠ S ∧ b ≠ c) S := fun h => h.1 rfl
    have nZc : ¬ (fun b => b ≠ S ∧ b ≠ c) c := fun h => h.2 rfl
    refine Evl.q_cut (M := fun σ' H' => ∃ vL, σ' = [some (.ref a), some (.ref S), some (.int tm), some (.int rn), some (.ref qf), some vL, none, none, none, none, none, none, none, none] ∧ Mv S c H6 H' ∧ Gv 16 10 (fun b => b ≠ S ∧ b ≠ c) H' vL) ?_ ?_
    · refine Evl.s_when (b := decide (V.int rn = V.int 1)) (Evl.et_test (Evl.ev_op (Evl.ev_var rfl) Evl.ev_c (Evl.rv_eq rfl))) (fun _ H7 e7 => ?_) fun _ H7 e7 => ⟨.ref ql, rfl, .ex st6 e7, gv_up (n := 7) (by decide) (Nat.le_refl _) (fun _ z => z) ⟨_, rp_ex e7 rL⟩⟩
      exact s_asgM ⟨_, rfl, _, rfl, S, c, .ref ql, 16, 7, fun b => b ≠ S ∧ b ≠ c, ll, rfl, st6.ex e7, rp_ex e7 rL, hll, nZS, nZc, by decide, by decide, fun H8 v8 m8 g8 => ⟨v8, rfl, (Mv.ex st6 e7).trans m8, gv_up (by decide) (Nat.le_refl _) (fun b hb => hb.elim id fun z => (st6.ex e7).someS z) g8⟩⟩
    rintro σ' H8 ⟨vL, rfl, m8, gL⟩
    have gF8 := gv_mv m8 nZS nZc gF
    refine Evl.q_asgL (Evl.el_lst (Evl.ea_cons (Evl.ev_var rfl) (Evl.ea_cons (Evl.ev_var rfl) Evl.ea_nil)) (by show 2 ≤ 100000; decide)) fun b H9 hb e9 hb9 => ?_
    have bS := m8.z.someS hb
    have st9 := m8.z.ex e9
    have gF9 := gv_ex e9 (gv_ne hb gF8)
    have gL9 := gv_ex e9 (gv_ne hb gL)
    clear gF gL gF8 rL hll ell m8 st6 hqf6
    refine Evl.q_forR1 (n := tm) (Evl.ea_cons (Evl.ev_var rfl) Evl.ea_nil) ⟨t0, by omega⟩ (fun i σ' H' => ∃ o7 o8 v1 v2, σ' = [some (.ref a), some (.ref S), some (.int tm), some (.int rn), some (.ref qf), some vL, some (.ref b), o7, o8, none, none, none, none, none] ∧ StAt H' S c ∧ H' b = some (.lst [v1, v2]) ∧ Gv (mm i) (10 + 11 * i) (fun x => (x ≠ S ∧ x ≠ c) ∧ x ≠ b) H' v1 ∧ Gv (mm i) (10 + 11 * i) (fun x => (x ≠ S ∧ x ≠ c) ∧ x ≠ b) H' v2)
      (fun H10 e10 => ⟨_, _, _, _, rfl, st9.ex e10, e10 _ _ hb9, gv_ex e10 gF9, gv_ex e10 gL9⟩) (fun i σ' H' hi pv => ?_) fun σ' H' pv => ?_
    · obtain ⟨o7, o8, v1, v2, rfl, st', hb', g1, g2⟩ := pv
      obtain ⟨m16, m600⟩ := mm_le (i := i) (by omega)
      refine q_asgM (tdraw (k := 4) (Evl.ev_var rfl) Evl.ev_c st' (by decide) (by decide) fun H10 r m10 r0 r1 => ⟨1, r, rfl, ?_⟩)
      obtain ⟨j, hj, ej⟩ : ∃ j : Nat, j < 2 ∧ (if r < 1 then r else 1) = (j : Int) := by
        by_cases c0 : r < 1
        · rw [if_pos c0]; exact ⟨0, by decide, by omega⟩
        · rw [if_neg c0]; exact ⟨1, by decide, rfl⟩
      rw [ej]
      have hb10 := m10.fr b _ bS.1 bS.2 hb'
      have h1 := gv_mv m10 (fun z => z.1.1 rfl) (fun z => z.1.2 rfl) g1
      have h2 := gv_mv m10 (fun z => z.1.1 rfl) (fun z => z.1.2 rfl) g2
      obtain ⟨x, hx, gx⟩ : ∃ x, [v1, v2][j]? = some x ∧ Gv (mm i) (10 + 11 * i) (fun x => (x ≠ S ∧ x ≠ c) ∧ x ≠ b) H10 x := by
        rcases (by omega : j = 0 ∨ j = 1) with rfl | rfl
        · exact ⟨_, rfl, h1⟩
        · exact ⟨_, rfl, h2⟩
      refine s_asgS (tspoilU (n := 10 + 11 * i) (by omega) (Evl.ev_var rfl) (Evl.ev_op (Evl.ev_var rfl) (Evl.ev_var rfl) (Evl.rv_ixL (Evl.sq_of hb10) (atI_nat hx))) m10.z gx (fun z => z.1.1 rfl) (fun z => z.1.2 rfl) m16 (by omega) fun H11 y m11 gy => ?_)
      have hb11 := m11.fr b _ bS.1 bS.2 hb10
      have up : ∀ {v : V}, Gv (mm i) (10 + 11 * i) (fun x => (x ≠ S ∧ x ≠ c) ∧ x ≠ b) H10 v → Gv (mm (i + 1)) (10 + 11 * (i + 1)) (fun x => (x ≠ S ∧ x ≠ c) ∧ x ≠ b) (upd H11 b (.lst ([v1, v2].set j y))) v := fun g => gv_upd hb11 (fun _ z => nomatch z) (fun b z => z.2) (gv_up (by omega) (by show mm i ≤ 3 * mm i + 3; omega) (fun _ z => z) (gv_mv m11 (fun z => z.1.1 rfl) (fun z => z.1.2 rfl) g))
      have gy' : Gv (mm (i + 1)) (10 + 11 * (i + 1)) (fun x => (x ≠ S ∧ x ≠ c) ∧ x ≠ b) (upd H11 b (.lst ([v1, v2].set j y))) y := gv_upd hb11 (fun _ z => nomatch z) (fun b z => z.2) (gv_up (by omega) (Nat.le_refl _) (fun x hx => by
        rcases hx with hx | hx
        · exact hx
        · refine ⟨m10.z.someS hx, fun z => ?_⟩
          rw [z, hb10] at hx; cases hx) gy)
      have stU : StAt (upd H11 b (.lst ([v1, v2].set j y))) S c := by
        obtain ⟨n, k, cs, h1, h2, h3⟩ := m11.z
        exact ⟨n, k, cs, by rw [upd_ne (Ne.symm bS.1)]; exact h1, by rw [upd_ne (Ne.symm bS.2)]; exact h2, h3⟩
      refine ⟨_, rfl, _, rfl, b, [v1, v2], (j : Int), j, rfl, rfl, hb11, Evl.ixN_nat hj, ?_⟩
      rcases (by omega : j = 0 ∨ j = 1) with rfl | rfl
      · exact ⟨_, _, y, v2, rfl, stU, upd_same, gy', up h2⟩
      · exact ⟨_, _, v1, y, rfl, stU, upd_same, up h1, gy'⟩
    · obtain ⟨o7, o8, v1, v2, rfl, st', hb', g1, g2⟩ := pv
      obtain ⟨m16, m600⟩ := mm_le (i := tm.toNat) (by omega)
      obtain ⟨d1, r1⟩ := gv_up (n' := 43) (m' := 600) (by omega) m600 (fun _ z => z) g1
      obtain ⟨d2, r2⟩ := gv_up (n' := 43) (m' := 600) (by omega) m600 (fun _ z => z) g2
      clear g1 g2 m16 m600 gF9 gL9 hb9 e9 hb
      have ix : ∀ {Hx : Hp} {σ : L2.St} {p : Addr} {x y : V} {i : Nat}, σ[i]? = some (some (V.ref p)) → Hx p = some (.lst [x, y]) → Ev (tOp (rIxL K) (tVar i) (tC (.int 0))) σ Hx x ∧ Ev (tOp (rIxL K) (tVar i) (tC (.int 1))) σ Hx y := fun h0 hx =>
        ⟨Evl.ev_op (Evl.ev_var h0) Evl.ev_c (Evl.rv_ixL (Evl.sq_of hx) rfl), Evl.ev_op (Evl.ev_var h0) Evl.ev_c (Evl.rv_ixL (Evl.sq_of hx) rfl)⟩
      refine q_asgM ((Evl.ea_cons (ix rfl hb').1 (Evl.ea_cons (ix rfl hb').2 Evl.ea_nil)) _ (Ex.refl _) _ fun H10 e10 => ⟨v1, v2, 600, 43, _, _, d1, d2, rfl, rp_ex e10 r1, rp_ex e10 r2, by decide, fun H11 e11 => ?_⟩)
      have hb11 := (e10.trans e11) _ _ hb'
      have r11 := rp_ex (e10.trans e11) r1
      have r12 := rp_ex (e10.trans e11) r2
      clear r1 r2 hb' e10 e11 st'
      have bothR : Rp H11 600 44 (fun x => H11 x ≠ none) (.lst [d1, d2]) (.ref b) := rp_S (fun x hx => hx.2) (rp_dom (S := fun _ => True) ⟨b, [v1, v2], rfl, trivial, hb11, (by show 2 ≤ 600; decide), .cons (rp_S (fun _ _ => trivial) r11) (.cons (rp_S (fun _ _ => trivial) r12) .nil)⟩)
      refine q_asgM ⟨_, rfl, .ref b, 600, _, .lst [d1, d2], rfl, bothR, by decide, fun H12 vp e12 rp12 => ?_⟩
      have rp12 := rp_dom rp12
      obtain ⟨pa, xs, rfl, sp, hpa, _, pr⟩ := id rp12
      obtain ⟨w1, w2, rfl, q1, q2⟩ : ∃ w1 w2, xs = [w1, w2] ∧ Rp H12 600 43 (fun x => H11 x = none ∧ H12 x ≠ none) d1 w1 ∧ Rp H12 600 43 (fun x => H11 x = none ∧ H12 x ≠ none) d2 w2 := by
        cases pr with
        | cons h1 t =>
          cases t with
          | cons h2 t2 => cases t2; exact ⟨_, _, rfl, h1, h2⟩
      refine Evl.q_asg Evl.ev_c fun H13 e13 => ?_
      refine Evl.q_asg Evl.ev_c fun H14 e14 => ?_
      have e24 := e13.trans e14
      have hpa4 := e24 _ _ hpa
      refine ⟨fun σ' Hx => Ex H12 Hx ∧ ((wrongG d1 d2 = none ∧ ∃ (x dx : Addr) (fs : List (Str × V)), σ' = [some (.ref a), some (.ref S), some (.int tm), some (.int rn), some (.ref qf), some vL, some (.ref b), o7, o8, some (oVG (wrongG d1 d2)), some (.ref pa), some (.ref x), some .non, none] ∧ Hx x = some (.ins C_Shape dx fs)) ∨
        ∃ part, wrongG d1 d2 = some part ∧ ∃ ea d, σ' = [some (.ref a), some (.ref S), some (.int tm), some (.int rn), some (.ref qf), some vL, some (.ref b), o7, o8, some (oVG (wrongG d1 d2)), some (.ref pa), some .non, some (.ref ea), none] ∧ Hx ea = some (exk ea (.ref C_InvalidShape) (some d)) ∧ Hx d = some (.xd [("part", .str part)])), ?_, ?_⟩
      · refine ⟨_, rfl, pa, _, 0, _, rfl, rfl, Evl.sq_of hpa4, rfl, _, rfl, pa, _, 1, _, rfl, rfl, Evl.sq_of hpa4, rfl, fun x dx hx hdx nxd => ?_⟩
        have oldI : Ex H14 (upd (upd H14 dx (.own x)) x (.ins C_Shape dx [])) := fun b o h => by
          have n1 : b ≠ x := fun e => by rw [e, hx] at h; cases h
          have n2 : b ≠ dx := fun e => by rw [e, hdx] at h; cases h
          rw [upd_ne n1, upd_ne n2]; exact h
        have eI := e24.trans oldI
        cases hw : wrongG d1 d2 with
        | none =>
          refine .inr ⟨x, dx, w1, w2, 600, 43, _, _, d1, d2, rfl, upd_same, rp_ex eI q1, rp_ex eI q2, fun z => z.2 (Evl.fresh_back e24 hx), by decide, hw, fun H' fs fr hx' => ⟨rfl, fun b o h => ?_, .inl ⟨rfl, x, dx, fs, rfl, hx'⟩⟩⟩
          exact fr b o (fun e => by rw [e, Evl.fresh_back e24 hx] at h; cases h) (eI b o h)
        | some part =>
          refine .inl ⟨x, w1, w2, 600, 43, _, _, d1, d2, part, rfl, rp_ex eI q1, rp_ex eI q2, by decide, hw, fun H' d e' hd => ⟨T.ex_InvalidShape_InvalidData, true, T.ex_InvalidShape_StayError, fun _ ea hea => ?_, fun h => nomatch h⟩⟩
          have ne : d ≠ ea := fun z => by rw [← z, upd_same] at hea; cases hea
          exact ⟨_, rfl, eI.trans (e'.trans ((Ex.new hd).trans (Ex.new hea))), .inr ⟨part, rfl, ea, d, rfl, upd_same, by rw [upd_ne ne, upd_same]⟩⟩
      · rintro σ' Hx ⟨ex, hh⟩
        have same : ∀ {σ : L2.St} {Hy : Hp}, Ex Hx Hy → σ[10]? = some (some (V.ref pa)) → σ[6]? = some (some (V.ref b)) → Ev (tCall (spSame 44) [] E0 (tCons (tVar 10) (tCons (tVar 6) tNil))) σ Hy (.bl true) := fun ey h10 h6 H1 e1 Q q =>
          ⟨_, h10, _, h6, .ref pa, .ref b, 600, _, _, .lst [d1, d2], rfl, rp_ex (ex.trans (ey.trans e1)) rp12, rp_ex (e12.trans (ex.trans (ey.trans e1))) bothR, by decide, fun b h1 h2 => h2 h1.1, fun H' e => q H' e⟩
        rcases hh with ⟨hw, x, dx, fs, rfl, hx⟩ | ⟨part, hw, ea, d, rfl, hea, hd⟩
        · rw [hw]
          refine Evl.q_when (b := false) (Evl.et_is (Evl.et_not (a := true) (Evl.et_B (same (Ex.refl _) rfl rfl))) rfl) (fun h => nomatch h) fun _ Hy ey => ?_
          refine Evl.q_when (b := true) (Evl.et_is (Evl.et_test (Evl.ev_op (Evl.ev_var rfl) Evl.ev_c rv_isN)) rfl) (fun _ Hz ez => ?_) fun h => nomatch h
          exact Evl.s_ret (v := .bl true) (Evl.ev_is (Evl.ev_andV (a := true) (b := true) (Evl.ev_is (Evl.ev_op (Evl.ev_var rfl) Evl.ev_c rv_isN) rfl) fun _ H1 e1 Q q => ⟨_, rfl, .ref x, .ref C_Shape, .ref C_Shape, .ref C_Shape, true, rfl, .own C_Shape, .base (.ins (((ey.trans ez).trans e1) _ _ hx) T.cl_Shape T.kl_Shape T.xk_InvalidShape.hn T.xk_InvalidShape.ht T.km_Shape), T.se_Shape, q H1 (Ex.refl _)⟩) rfl) fun H' _ => k H'
        · rw [hw]
          refine Evl.q_when (b := false) (Evl.et_is (Evl.et_not (a := true) (Evl.et_B (same (Ex.refl _) rfl rfl))) rfl) (fun h => nomatch h) fun _ Hy ey => ?_
          refine Evl.q_when (b := false) (Evl.et_is (Evl.et_test (Evl.ev_op (Evl.ev_var rfl) Evl.ev_c rv_isN)) rfl) (fun h => nomatch h) fun _ Hz ez => ?_
          exact Evl.s_ret (v := .bl true) (Evl.ev_is (Evl.ev_andV (a := true) (b := true) (Evl.ev_is (Evl.ev_op (Evl.ev_var rfl) Evl.ev_c rv_isN) rfl) fun _ => Evl.ev_is (Evl.ev_andV (a := true) (b := true) (fun H1 e1 Q q => ⟨_, rfl, ea, C_InvalidShape, d, _, _, _, true, rfl, .own C_InvalidShape, T.xk_InvalidShape, ((ey.trans ez).trans e1) _ _ hea, ((ey.trans ez).trans e1) _ _ hd, T.se_InvalidShape, q H1 (Ex.refl _)⟩) fun _ H1 e1 Q q =>
            ⟨_, rfl, ea, d, _, _, rfl, ((ey.trans ez).trans e1) _ _ hea, ((ey.trans ez).trans e1) _ _ hd, rfl, _, rfl, .str part, .str part, 600, fun _ => False, fun _ => False, .str part, rfl, ⟨rfl, Nat.le_trans (wrong_len hw) (by decide)⟩, ⟨rfl, Nat.le_trans (wrong_len hw) (by decide)⟩, by decide, fun _ h => h.elim, fun H' e => q H' e⟩) rfl) rfl) fun H' _ => k H'
end Pk

namespace Pk
open PySem PySem.Spec PyProof.Rows L2 Ssb
theorem all_mk {l : PySem.W.OpenLaw} {w : World} {K : PySem.W.Frag} {h : Heap} {mg : Str → Option Value} {fa C_Shape C_InvalidShape C_InvalidData C_StayError : Addr} (X : K.In h) (G : h.Ns mainGlobals mg) (hfa : mg "law" = some (.ref fa))
    (aShape : PySem.W.nsIn K mainGlobals "Shape" = some (some (.ref C_Shape)))
    (pgShape : PySem.W.plainGet K C_Shape Str.empty = true)
    (hdShape : PySem.W.hasDictIn K C_Shape = true)
    (poShape : PySem.W.plainOver K C_Shape = true)
    (saShape : PySem.W.findIn K (.ref C_Shape) "__setattr__" = some (some (.builtin "object.__setattr__")))
    (mkShape : PySem.W.makesIn K C_Shape = true)
    (kcShape : PySem.W.keepIn K (.ref C_Shape) = true)
    (klShape : PySem.W.findIn K (.ref C_Shape) "__class__" = some (some (.builtin "object.__class__")))
    (kmShape : PySem.W.mroIn K C_Shape (.type "object") = some true)
    (seShape : PySem.W.kitOne K (.ref C_Shape) (.ref C_Shape) = some true)
    (nShapeflags : PySem.W.findIn K (.ref C_Shape) "flags" = some none)
    (nShapetable : PySem.W.findIn K (.ref C_Shape) "table" = some none)
    (aInvalidData : PySem.W.nsIn K mainGlobals "InvalidData" = some (some (.ref C_InvalidData)))
    (kcInvalidData : PySem.W.keepIn K (.ref C_InvalidData) = true)
    (aStayError : PySem.W.nsIn K mainGlobals "StayError" = some (some (.ref C_StayError)))
    (kcStayError : PySem.W.keepIn K (.ref C_StayError) = true)
    (aInvalidShape : PySem.W.nsIn K mainGlobals "InvalidShape" = some (some (.ref C_InvalidShape)))
    (ovInvalidShape : PySem.W.excOver K C_InvalidShape exBm = true)
    (mdInvalidShape : PySem.W.excInitIn K C_InvalidShape exBm "Exception.__new__" = true)
    (hdInvalidShape : PySem.W.hasDictIn K C_InvalidShape = true)
    (saInvalidShape : PySem.W.findIn K (.ref C_InvalidShape) "__setattr__" = some (some (.builtin "object.__setattr__")))
    (ecInvalidShape : PySem.W.subIn K (.ref C_InvalidShape) (.type "BaseException") = some true)
    (tyInvalidShape : PySem.W.typeIn K (.ref C_InvalidShape) = some (.type "type"))
    (kcInvalidShape : PySem.W.keepIn K (.ref C_InvalidShape) = true)
    (gaInvalidShape : PySem.W.findIn K (.ref C_InvalidShape) "__getattribute__" = some (some (.builtin "BaseException.__getattribute__")))
    (ggInvalidShape : PySem.W.findIn K (.ref C_InvalidShape) "__getattr__" = some none)
    (owInvalidShape : PySem.W.exmOne K (.ref C_InvalidShape) (.ref C_InvalidShape) = some true)
    (klInvalidShape : PySem.W.findIn K (.ref C_InvalidShape) "__class__" = some (some (.builtin "object.__class__")))
    (knInvalidShape : PySem.W.specialIn K (.builtin "object.__class__") "__get__" = some (some (.builtin "getset_descriptor.__get__")))
    (ktInvalidShape : PySem.W.takesIn K (.builtin "object.__class__") = some true)
    (kmInvalidShape : PySem.W.mroIn K C_InvalidShape (.type "object") = some true)
    (nInvalidShapepart : PySem.W.findIn K (.ref C_InvalidShape) "part" = some none)
    (isInvalidShapeInvalidData : PySem.W.kitOne K (.ref C_InvalidShape) (.ref C_InvalidData) = some false)
    (isInvalidShapeStayError : PySem.W.kitOne K (.ref C_InvalidShape) (.ref C_StayError) = some true)
    (exInvalidShapeInvalidData : PySem.W.exmOne K (.ref C_InvalidShape) (.ref C_InvalidData) = some false)
    (exInvalidShapeStayError : PySem.W.exmOne K (.ref C_InvalidShape) (.ref C_StayError) = some true)
    (seInvalidShape : PySem.W.kitOne K (.ref C_InvalidShape) (.ref C_InvalidShape) = some true)
    (z_all : PySem.W.nsIn K mainGlobals "all" = some none)
    (z_enumerate : PySem.W.nsIn K mainGlobals "enumerate" = some none)
    (z_int : PySem.W.nsIn K mainGlobals "int" = some none)
    (z_str : PySem.W.nsIn K mainGlobals "str" = some none)
    (z_bool : PySem.W.nsIn K mainGlobals "bool" = some none)
    (z_isinstance : PySem.W.nsIn K mainGlobals "isinstance" = some none)
    (z_len : PySem.W.nsIn K mainGlobals "len" = some none)
    (z_list : PySem.W.nsIn K mainGlobals "list" = some none)
    (z_min : PySem.W.nsIn K mainGlobals "min" = some none)
    (z_range : PySem.W.nsIn K mainGlobals "range" = some none)
    (z_reversed : PySem.W.nsIn K mainGlobals "reversed" = some none)
    (z_sorted : PySem.W.nsIn K mainGlobals "sorted" = some none)
    (z_tuple : PySem.W.nsIn K mainGlobals "tuple" = some none)
    (z_set : PySem.W.nsIn K mainGlobals "set" = some none)
    (z_dict : PySem.W.nsIn K mainGlobals "dict" = some none)
    (d_InvalidShape_init : HereM K C_InvalidShape "__init__" "InvalidShape.__init__" s_InvalidShape_init)
    (d_is_word : Here K mg "is_word" s_is_word)
    (d_are_words : Here K mg "are_words" s_are_words)
    (d_has_names : Here K mg "has_names" s_has_names)
    (d_is_named : Here K mg "is_named" s_is_named)
    (d_wrong_part : Here K mg "wrong_part" s_wrong_part)
    (d_are_lists : Here K mg "are_lists" s_are_lists)
    (d_are_list_shapes : Here K mg "are_list_shapes" s_are_list_shapes)
    (d_list_rows : Here K mg "list_rows" s_list_rows)
    (d_are_fields : Here K mg "are_fields" s_are_fields)
    (d_Shape_init : HereM K C_Shape "__init__" "Shape.__init__" s_Shape_init)
    (d__law_stream : Here K mg "_law_stream" s__law_stream)
    (d__law_draw : Here K mg "_law_draw" s__law_draw)
    (d__law_same : Here K mg "_law_same" s__law_same)
    (d__law_copy : Here K mg "_law_copy" s__law_copy)
    (d__law_word : Here K mg "_law_word" s__law_word)
    (d__law_names : Here K mg "_law_names" s__law_names)
    (d__law_fields : Here K mg "_law_fields" s__law_fields)
    (d__law_lists : Here K mg "_law_lists" s__law_lists)
    (d__law_about : Here K mg "_law_about" s__law_about)
    (d__law_odd : Here K mg "_law_odd" s__law_odd)
    (d__law_resized : Here K mg "_law_resized" s__law_resized)
    (d__law_changed : Here K mg "_law_changed" s__law_changed)
    (d__law_spoil : Here K mg "_law_spoil" s__law_spoil)
    (d__law_is_word : Here K mg "_law_is_word" s__law_is_word)
    (d__law_are_words : Here K mg "_law_are_words" s__law_are_words)
    (d__law_listed : Here K mg "_law_listed" s__law_listed)
    (d__law_fields_fit : Here K mg "_law_fields_fit" s__law_fields_fit)
    (d__law_wrong : Here K mg "_law_wrong" s__law_wrong)
    (d__law_renamed : Here K mg "_law_renamed" s__law_renamed)
    (d_law : Here K mg "law" s_law) :
    ∃ fd : FuncData, (∀ (s : Shared) (v : Value), BindsTo s fd ⟨[v], []⟩ [("_law_script", v)]) ∧ ∀ base : Heap, K.In base → base.Ns mainGlobals mg → FnOk l.prog w K mg base CX0 60 fa fd ["_law_script"] (spLaw K) := by
  have T : Txt K mg C_Shape C_InvalidShape C_InvalidData C_StayError := { all := PySem.W.mg_none_of X G z_all, enumerate := PySem.W.mg_none_of X G z_enumerate, int := PySem.W.mg_none_of X G z_int, str := PySem.W.mg_none_of X G z_str, bool := PySem.W.mg_none_of X G z_bool, isinstance := PySem.W.mg_none_of X G z_isinstance, len := PySem.W.mg_none_of X G z_len, list := PySem.W.mg_none_of X G z_list, min := PySem.W.mg_none_of X G z_min, range := PySem.W.mg_none_of X G z_range, reversed := PySem.W.mg_none_of X G z_reversed, sorted := PySem.W.mg_none_of X G z_sorted, tuple := PySem.W.mg_none_of X G z_tuple, set := PySem.W.mg_none_of X G z_set, dict := PySem.W.mg_none_of X G z_dict, cl_Shape := ⟨pgShape, hdShape, poShape, saShape⟩, mk_Shape := mkShape, kp_Shape := kcShape, kl_Shape := klShape, km_Shape := kmShape, se_Shape := seShape, at_Shape := PySem.W.mg_of X G aShape, no_Shape_flags := nShapeflags, no_Shape_table := nShapetable, ox_InvalidShape := ⟨ovInvalidShape, mdInvalidShape, hdInvalidShape, saInvalidShape, ecInvalidShape, tyInvalidShape, kcInvalidShape⟩, at_InvalidShape := PySem.W.mg_of X G aInvalidShape, xk_InvalidShape := ⟨⟨gaInvalidShape, ggInvalidShape, ecInvalidShape, hdInvalidShape⟩, exk_cl hdInvalidShape, klInvalidShape, knInvalidShape, ktInvalidShape, kmInvalidShape⟩, own_InvalidShape := owInvalidShape, no_InvalidShape_part := nInvalidShapepart, is_InvalidShape_InvalidData := isInvalidShapeInvalidData, is_InvalidShape_StayError := isInvalidShapeStayError, ex_InvalidShape_InvalidData := exInvalidShapeInvalidData, ex_InvalidShape_StayError := exInvalidShapeStayError, se_InvalidShape := seInvalidShape, at_InvalidData := PySem.W.mg_of X G aInvalidData, kp_InvalidData := kcInvalidData, at_StayError := PySem.W.mg_of X G aStayError, kp_StayError := kcStayError }
  have R : Prg K mg C_Shape C_InvalidShape C_InvalidData C_StayError := { InvalidShape_init := d_InvalidShape_init, is_word := d_is_word, are_words := d_are_words, has_names := d_has_names, is_named := d_is_named, wrong_part := d_wrong_part, are_lists := d_are_lists, are_list_shapes := d_are_list_shapes, list_rows := d_list_rows, are_fields := d_are_fields, Shape_init := d_Shape_init, _law_stream := d__law_stream, _law_draw := d__law_draw, _law_same := d__law_same, _law_copy := d__law_copy, _law_word := d__law_word, _law_names := d__law_names, _law_fields := d__law_fields, _law_lists := d__law_lists, _law_about := d__law_about, _law_odd := d__law_odd, _law_resized := d__law_resized, _law_changed := d__law_changed, _law_spoil := d__law_spoil, _law_is_word := d__law_is_word, _law_are_words := d__law_are_words, _law_listed := d__law_listed, _law_fields_fit := d__law_fields_fit, _law_wrong := d__law_wrong, _law_renamed := d__law_renamed, law := d_law }
  exact main_ok T R hfa
theorem walk {l : PySem.W.OpenLaw} {q : Program} {loose : List Str} {XP : (Str → Option Value) → Heap → Prop} {YP : World → Heap → Prop} {d : DefRec} {K : Params → PySem.W.Frag} (hn : l.most = some 63) (hdf : d.params.defaults = [])
    (hY : ∀ (w : World) (h : Heap), YP w h → (K w.params).In h)
    (F : ∀ (w : World) (mg : Str → Option Value) (fa : Addr) (h : Heap), (K w.params).In h → h.Ns mainGlobals mg → mg d.name = some (.ref fa) →
      ∃ fd : FuncData, (∀ (s : Shared) (u : Value), BindsTo s fd ⟨[u], []⟩ [("_law_script", u)]) ∧ ∀ base : Heap, (K w.params).In base → base.Ns mainGlobals mg → FnOk l.prog w (K w.params) mg base CX0 60 fa fd ["_law_script"] (spLaw (K w.params))) :
    PySem.W.WalkO q loose XP YP l.row.toRowW d [] (fun f vs => PySem.call f vs) :=
  L2.walk_of (n := 63) (k := 60) (x := "_law_script") (CX := fun _ => CX0) (sp := fun w => spLaw (K w.params)) hn (by decide) hdf ⟨rfl, by decide, by decide⟩ hY F (fun _ _ a ns hl _ hS => ⟨a, ns, rfl, hS, hl, fun _ => rfl⟩) fun _ _ _ _ _ z => z
end Pk
open PySem PySem.W PyProof.Rows
set_option maxRecDepth 100000 in
set_option maxHeartbeats 0 in
theorem PySem.Challenge.cw_statestay_k02_shape_refused_holds : PySem.Challenge.rw_statestay_k02_shape_refused.Holds := by
  w_on; o_law; k_head; (case hw => w_witness2)
  k_fill
  refine Pk.walk (l := PySem.Challenge.rw_statestay_k02_shape_refused) rfl rfl (fun w h Y => PySem.W.kIn_of Y) ?F
  case F =>
    intro w mg fa h KX G hmg
    refine' Pk.all_mk KX G hmg ?aShape ?pgShape ?hdShape ?poShape ?saShape ?mkShape ?kcShape ?klShape ?kmShape ?seShape ?nShapeflags ?nShapetable ?aInvalidData ?kcInvalidData ?aStayError ?kcStayError ?aInvalidShape ?ovInvalidShape ?mdInvalidShape ?hdInvalidShape ?saInvalidShape ?ecInvalidShape ?tyInvalidShape ?kcInvalidShape ?gaInvalidShape ?ggInvalidShape ?owInvalidShape ?klInvalidShape ?knInvalidShape ?ktInvalidShape ?kmInvalidShape ?nInvalidShapepart ?isInvalidShapeInvalidData ?isInvalidShapeStayError ?exInvalidShapeInvalidData ?exInvalidShapeStayError ?seInvalidShape ?z_all ?z_enumerate ?z_int ?z_str ?z_bool ?z_isinstance ?z_len ?z_list ?z_min ?z_range ?z_reversed ?z_sorted ?z_tuple ?z_set ?z_dict ?d_InvalidShape_init ?d_is_word ?d_are_words ?d_has_names ?d_is_named ?d_wrong_part ?d_are_lists ?d_are_list_shapes ?d_list_rows ?d_are_fields ?d_Shape_init ?d__law_stream ?d__law_draw ?d__law_same ?d__law_copy ?d__law_word ?d__law_names ?d__law_fields ?d__law_lists ?d__law_about ?d__law_odd ?d__law_resized ?d__law_changed ?d__law_spoil ?d__law_is_word ?d__law_are_words ?d__law_listed ?d__law_fields_fit ?d__law_wrong ?d__law_renamed ?d_law
    (case aShape => k_is)
    (case pgShape => k_is)
    (case hdShape => k_is)
    (case poShape => k_is)
    (case saShape => k_is)
    (case mkShape => k_is)
    (case kcShape => k_is)
    (case klShape => k_is)
    (case kmShape => k_is)
    (case seShape => kit_is)
    (case nShapeflags => k_is)
    (case nShapetable => k_is)
    (case aInvalidData => k_is)
    (case kcInvalidData => k_is)
    (case aStayError => k_is)
    (case kcStayError => k_is)
    (case aInvalidShape => k_is)
    (case ovInvalidShape => first | k_is | kx_is)
    (case mdInvalidShape => first | k_is | kx_is)
    (case hdInvalidShape => k_is)
    (case saInvalidShape => k_is)
    (case ecInvalidShape => first | k_is | kx_is)
    (case tyInvalidShape => first | k_is | kx_is)
    (case kcInvalidShape => k_is)
    (case gaInvalidShape => k_is)
    (case ggInvalidShape => k_is)
    (case owInvalidShape => kts_exm)
    (case klInvalidShape => k_is)
    (case knInvalidShape => k_is)
    (case ktInvalidShape => k_is)
    (case kmInvalidShape => k_is)
    (case nInvalidShapepart => k_is)
    (case isInvalidShapeInvalidData => kit_is)
    (case isInvalidShapeStayError => kit_is)
    (case exInvalidShapeInvalidData => kts_exm)
    (case exInvalidShapeStayError => kts_exm)
    (case seInvalidShape => kit_is)
    (case z_all => k_is)
    (case z_enumerate => k_is)
    (case z_int => k_is)
    (case z_str => k_is)
    (case z_bool => k_is)
    (case z_isinstance => k_is)
    (case z_len => k_is)
    (case z_list => k_is)
    (case z_min => k_is)
    (case z_range => k_is)
    (case z_reversed => k_is)
    (case z_sorted => k_is)
    (case z_tuple => k_is)
    (case z_set => k_is)
    (case z_dict => k_is)
    (case d_InvalidShape_init => (refine' Pk.hereM_mk ?a ?i ?l ?c ?k; (case a => k_is); (case i => k_is); (case l => k_is); (case c => k_is); (case k => k_is)))
    (case d_is_word => (refine' Pk.here_mk KX G ?a ?l ?c ?k; (case a => k_is); (case l => k_is); (case c => k_is); (case k => k_is)))
    (case d_are_words => (refine' Pk.here_mk KX G ?a ?l ?c ?k; (case a => k_is); (case l => k_is); (case c => k_is); (case k => k_is)))
    (case d_has_names => (refine' Pk.here_mk KX G ?a ?l ?c ?k; (case a => k_is); (case l => k_is); (case c => k_is); (case k => k_is)))
    (case d_is_named => (refine' Pk.here_mk KX G ?a ?l ?c ?k; (case a => k_is); (case l => k_is); (case c => k_is); (case k => k_is)))
    (case d_wrong_part => (refine' Pk.here_mk KX G ?a ?l ?c ?k; (case a => k_is); (case l => k_is); (case c => k_is); (case k => k_is)))
    (case d_are_lists => (refine' Pk.here_mk KX G ?a ?l ?c ?k; (case a => k_is); (case l => k_is); (case c => k_is); (case k => k_is)))
    (case d_are_list_shapes => (refine' Pk.here_mk KX G ?a ?l ?c ?k; (case a => k_is); (case l => k_is); (case c => k_is); (case k => k_is)))
    (case d_list_rows => (refine' Pk.here_mk KX G ?a ?l ?c ?k; (case a => k_is); (case l => k_is); (case c => k_is); (case k => k_is)))
    (case d_are_fields => (refine' Pk.here_mk KX G ?a ?l ?c ?k; (case a => k_is); (case l => k_is); (case c => k_is); (case k => k_is)))
    (case d_Shape_init => (refine' Pk.hereM_mk ?a ?i ?l ?c ?k; (case a => k_is); (case i => k_is); (case l => k_is); (case c => k_is); (case k => k_is)))
    (case d__law_stream => (refine' Pk.here_mk KX G ?a ?l ?c ?k; (case a => k_is); (case l => k_is); (case c => k_is); (case k => k_is)))
    (case d__law_draw => (refine' Pk.here_mk KX G ?a ?l ?c ?k; (case a => k_is); (case l => k_is); (case c => k_is); (case k => k_is)))
    (case d__law_same => (refine' Pk.here_mk KX G ?a ?l ?c ?k; (case a => k_is); (case l => k_is); (case c => k_is); (case k => k_is)))
    (case d__law_copy => (refine' Pk.here_mk KX G ?a ?l ?c ?k; (case a => k_is); (case l => k_is); (case c => k_is); (case k => k_is)))
    (case d__law_word => (refine' Pk.here_mk KX G ?a ?l ?c ?k; (case a => k_is); (case l => k_is); (case c => k_is); (case k => k_is)))
    (case d__law_names => (refine' Pk.here_mk KX G ?a ?l ?c ?k; (case a => k_is); (case l => k_is); (case c => k_is); (case k => k_is)))
    (case d__law_fields => (refine' Pk.here_mk KX G ?a ?l ?c ?k; (case a => k_is); (case l => k_is); (case c => k_is); (case k => k_is)))
    (case d__law_lists => (refine' Pk.here_mk KX G ?a ?l ?c ?k; (case a => k_is); (case l => k_is); (case c => k_is); (case k => k_is)))
    (case d__law_about => (refine' Pk.here_mk KX G ?a ?l ?c ?k; (case a => k_is); (case l => k_is); (case c => k_is); (case k => k_is)))
    (case d__law_odd => (refine' Pk.here_mk KX G ?a ?l ?c ?k; (case a => k_is); (case l => k_is); (case c => k_is); (case k => k_is)))
    (case d__law_resized => (refine' Pk.here_mk KX G ?a ?l ?c ?k; (case a => k_is); (case l => k_is); (case c => k_is); (case k => k_is)))
    (case d__law_changed => (refine' Pk.here_mk KX G ?a ?l ?c ?k; (case a => k_is); (case l => k_is); (case c => k_is); (case k => k_is)))
    (case d__law_spoil => (refine' Pk.here_mk KX G ?a ?l ?c ?k; (case a => k_is); (case l => k_is); (case c => k_is); (case k => k_is)))
    (case d__law_is_word => (refine' Pk.here_mk KX G ?a ?l ?c ?k; (case a => k_is); (case l => k_is); (case c => k_is); (case k => k_is)))
    (case d__law_are_words => (refine' Pk.here_mk KX G ?a ?l ?c ?k; (case a => k_is); (case l => k_is); (case c => k_is); (case k => k_is)))
    (case d__law_listed => (refine' Pk.here_mk KX G ?a ?l ?c ?k; (case a => k_is); (case l => k_is); (case c => k_is); (case k => k_is)))
    (case d__law_fields_fit => (refine' Pk.here_mk KX G ?a ?l ?c ?k; (case a => k_is); (case l => k_is); (case c => k_is); (case k => k_is)))
    (case d__law_wrong => (refine' Pk.here_mk KX G ?a ?l ?c ?k; (case a => k_is); (case l => k_is); (case c => k_is); (case k => k_is)))
    (case d__law_renamed => (refine' Pk.here_mk KX G ?a ?l ?c ?k; (case a => k_is); (case l => k_is); (case c => k_is); (case k => k_is)))
    (case d_law => (refine' Pk.here_mk KX G ?a ?l ?c ?k; (case a => k_is); (case l => k_is); (case c => k_is); (case k => k_is)))
