import PyProof.Rows.All
import Wide.All
import OpenK.AllK
import Wide.FinOn
import KE.KExcInit
import KE.KExcIs
import KE.KEqNest
import KE.KFmtOwn
import HandS.ForMost
import HandS.Evl
import HandS.IsInst
import HandS.DictComp
import HandS.SetKeys
import HandS.Strs
import HandS.Wide
import HandS.Walk
import HandS.Conv
import HandS.More
import HandS.TupAny
import HandS.Rev
import HandS.SetBool
import HandS.Exc
import HandS.ExcInit
import HandS.ExcField
import HandS.CallSlots
import HandS.WordsExc
import HandS.DeepEq
import HandS.OwnEq
import HandS.RevTup
import HandS.TupLe
import PySem.Challenge.RW_statestay_k03_shapes_equal
set_option Elab.async false
set_option linter.all false
set_option maxRecDepth 100000
set_option maxHeartbeats 3100000
/-! Sets of texts of any size: set(xs) of a list or a tuple, and their length. -/
namespace Ssb
open PySem PySem.Spec PyProof.Rows L2

/-- acc and, behind it, what of the list was not met before -/
def met : List Str → List Str → List Str
  | acc, [] => acc
  | acc, x :: r => met (if x ∈ acc then acc else acc ++ [x]) r
theorem met_len : ∀ (l acc : List Str), (met acc l).length ≤ acc.length + l.length
  | [], acc => Nat.le_refl _
  | x :: r, acc => by
    have h := met_len r (if x ∈ acc then acc else acc ++ [x])
    show (met (if x ∈ acc then acc else acc ++ [x]) r).length ≤ acc.length + (r.length + 1)
    refine Nat.le_trans h ?_
    by_cases hx : x ∈ acc
    · rw [if_pos hx]; omega
    · rw [if_neg hx, List.length_append, List.length_singleton]; omega
theorem met_nodup : ∀ (l acc : List Str), (acc ++ l).Nodup → met acc l = acc ++ l
  | [], acc, _ => by rw [List.append_nil]; rfl
  | x :: r, acc, h => by
    have hx : ¬ x ∈ acc := fun hm => by
      have := (List.nodup_append.mp h).2.2 x hm x List.mem_cons_self
      exact this rfl
    show met (if x ∈ acc then acc else acc ++ [x]) r = acc ++ x :: r
    rw [if_neg hx, met_nodup r (acc ++ [x]) (by rw [List.append_assoc]; exact h), List.append_assoc]
    rfl
theorem met_in (acc : List Str) (x k : Str) : (decide (k ∈ acc) || decide (k = x)) = decide (k ∈ (if x ∈ acc then acc else acc ++ [x])) := by
  by_cases hx : x ∈ acc
  · rw [if_pos hx]
    by_cases e : k = x
    · rw [e, decide_eq_true hx]; rfl
    · rw [decide_eq_false e, Bool.or_false]
  · rw [if_neg hx]
    by_cases e : k = x
    · rw [e, decide_eq_true rfl, Bool.or_true, decide_eq_true (List.mem_append_right _ List.mem_cons_self)]
    · by_cases h2 : k ∈ acc
      · rw [decide_eq_true h2, decide_eq_true (List.mem_append_left _ h2)]; rfl
      · rw [decide_eq_false h2, decide_eq_false e, decide_eq_false]; rfl
        intro z
        rcases List.mem_append.mp z with z | z
        · exact h2 z
        · exact e (List.mem_singleton.mp z)
theorem met_size (acc : List Str) (x : Str) : (if decide (x ∈ acc) = true then acc.length else acc.length + 1) = (if x ∈ acc then acc else acc ++ [x]).length := by
  by_cases hx : x ∈ acc
  · rw [if_pos hx, decide_eq_true hx, if_pos rfl]
  · rw [if_neg hx, decide_eq_false hx, if_neg Bool.false_ne_true, List.length_append]; rfl
theorem cod_some {xs : List Str} {i : Nat} (h : i < xs.length) : xs.drop i = xs.getD i Str.empty :: xs.drop (i + 1) := by
  rw [List.drop_eq_getElem_cons h, List.getD_eq_getElem?_getD, List.getElem?_eq_getElem h, Option.getD_some]

section
variable {prog : Program} {w : World} {A : Around} {R : Result → Shared → Prop} {I S : Addr} {fp wr : List Addr} {G : Array GenState → Array GenState → Prop} {n : Nat} {P : Nat → Value → Prop} {St : Nat → Shared → Prop}
/-- set.update's own loop over texts -/
theorem upd_loop (W : WalksS prog w A.in1 I fp wr G n P St) (nS : S ∉ fp) {xs : List Str} (len : xs.length = n) (val : ∀ i v, P i v → ∃ t, v = .str (xs.getD i Str.empty) t) (few : n + 1 < scanBound) :
    ∀ (m i : Nat) (acc : List Str) (s : Shared), i + m = n → acc.length ≤ i → St i s → s.heap.SetOf (PySem.strKind prog w) S (fun k => decide (k ∈ acc)) acc.length →
      (∀ s2, Moved (S :: wr) G s s2 → s2.heap.SetOf (PySem.strKind prog w) S (fun k => decide (k ∈ met acc (xs.drop i))) (met acc (xs.drop i)).length → R (.ok (.ret .none)) s2) →
      codeAny (model prog w) A (.builtin "set.update.loop" ⟨[.ref S, .ref I], []⟩) R s := by
  have nw : S ∉ wr := fun hm => nS (W.sub S hm)
  have up : ∀ b, b ∈ wr → b ∈ S :: wr := fun b => List.mem_cons_of_mem S
  have stays : ∀ {s s2 : Shared} {T : Str → Bool} {c : Nat}, Moved wr G s s2 → s.heap.SetOf (PySem.strKind prog w) S T c → s2.heap.SetOf (PySem.strKind prog w) S T c := fun mv ⟨o, a1, a2, a3, q, r⟩ => ⟨o, a1, a2, a3, mv.heap S o nw q, r⟩
  intro m
  induction m with
  | zero =>
    intro i acc s e _ st so k
    obtain rfl : i = n := e
    refine codeAny_builtin PyProof.Rows.F.entry_set_update_loop ?_
    rw [Around.under_plainId PyProof.Rows.F.plain_set_update_loop]
    refine wpAny_bind (W.done s _ _ st fun s2 mv => wpAny_pure (k s2 (mv.mono up) ?_))
    rw [List.drop_of_length_le (Nat.le_of_eq len)]
    exact stays mv so
  | succ m ih =>
    intro i acc s e la st so k
    have lt : i < n := by omega
    refine codeAny_builtin PyProof.Rows.F.entry_set_update_loop ?_
    rw [Around.under_plainId PyProof.Rows.F.plain_set_update_loop]
    refine wpAny_bind (W.item i s _ _ lt st fun v s2 pv st2 mv => ?_)
    obtain ⟨t, rfl⟩ := val i v pv
    have so2 := stays mv so
    refine wpAny_bind (wpAny_holding ?_)
    unfold setAdd
    refine wpAny_holding (wpAny_bind ((PySem.strKind prog w).pyHash (k := xs.getD i Str.empty) (strKind_is _ _ _ _) ?_))
    refine wpAny_setAddHashed_of (knd := PySem.strKind prog w) (s := { s2 with toks := s2.toks + 1 }) (strKind_is _ _ _ _) rfl so2 (by omega) fun h3 sb so3 => ?_
    have out : ∀ b, b ≠ S → ∀ o, s2.heap.get? b = some o → h3.get? b = some o := fun b hb o q => (sb.2 b hb).trans q
    have so4 : h3.SetOf (PySem.strKind prog w) S (fun k' => decide (k' ∈ (if xs.getD i Str.empty ∈ acc then acc else acc ++ [xs.getD i Str.empty]))) (if xs.getD i Str.empty ∈ acc then acc else acc ++ [xs.getD i Str.empty]).length :=
      SetOf_congr so3 (fun k' => met_in _ _ _) (met_size _ _)
    have len4 : (if xs.getD i Str.empty ∈ acc then acc else acc ++ [xs.getD i Str.empty]).length ≤ i + 1 := by
      by_cases hx : xs.getD i Str.empty ∈ acc
      · rw [if_pos hx]; omega
      · rw [if_neg hx, List.length_append, List.length_singleton]; omega
    refine wpAny_pure ⟨plainId_quiet PyProof.Rows.F.plain_set_update_loop _, ih (i + 1) _ { s2 with heap := h3, toks := s2.toks + 1 } (by omega) len4 (W.frame _ s2 _ _ st2 (Nat.le_succ _) fun b hb o q => out b (fun z => nS (z ▸ hb)) o q) so4 fun s5 mv5 so5 => k s5 ?_ ?_⟩
    · exact Moved.trans W.gtrans ((mv.mono up).then_heap (Nat.le_succ _) fun b o hb q => out b (fun z => hb (z ▸ List.mem_cons_self)) o q) mv5
    · rw [cod_some (by omega)]
      exact so5
end

/-- what stands at the new set's place at first -/
abbrev bare (led : Bool) : Obj := { cls := .type "set", dict := none, data := .set #[] 0 (.fresh 0 0 led) }
section
variable {prog : Program} {w : World} {A : Around} {E : Value → Shared → Prop} {s : Shared} {src : Addr} {items : Array Value} {xs : List Str}
set_option maxHeartbeats 3200000 in
/-- set(list of texts) -/
theorem set_list {Q : Value → Shared → Prop} (calm : A.handled = none) (at_ : s.heap.IsList src items) (are : PyProof.Rows.StrsAre items.toList xs) (few : xs.length + 1 < scanBound)
    (k : ∀ (h2 : Heap) (tk : Nat), h2.SetOf (PySem.strKind prog w) s.heap.objs.size (fun k' => decide (k' ∈ met [] xs)) (met [] xs).length → (∀ b o, s.heap.get? b = some o → h2.get? b = some o) → Q (.ref s.heap.objs.size) { s with heap := h2, toks := tk }) :
    wpAny (model prog w) A (call (.type "set") [.ref src]) Q E s := by
  have m1 := PySem.F.called_set.mro
  obtain ⟨_, _, hm⟩ := m1
  have made := PySem.F.called_set.made
  have below := PySem.F.called_set.sub
  refine wpAny_call (codeAny_of_tree ?_)
  show wpAny _ _ (callAny (Value.type "set") ⟨[Value.ref src], []⟩) _ _ _
  refine wpAny_pure (And.intro (Code.quiet_builtin _ (by decide +kernel)) (codeAny_builtin PySem.F.entry_type_call ?_))
  rw [Around.under_plain (weight_type_call_type "set" [Value.ref src] []) rfl]
  have n1 := PySem.F.called_set.notType
  have n2 := PySem.F.called_set.canCreate
  have n3 := PySem.F.typeCall_set_1 (Value.ref src)
  repeat any_goals first | wp_step | assumption
  refine codeAny_mono (code_set_new_1 (Value.ref src) (E := E) (Q₁ := fun x s1 => ∃ led, x = .ref s.heap.objs.size ∧ s1 = { s with heap := s.heap.push (bare led) }) fun led => ⟨led, rfl, rfl⟩) fun r s1 back => ?_
  cases r with
  | error e => exact back
  | ok fl =>
    cases fl with
    | next => exact back.elim
    | brk => exact back.elim
    | cont => exact back.elim
    | ret x =>
      obtain ⟨led, rfl, rfl⟩ := back
      have gS : (s.heap.push (bare led)).get? s.heap.objs.size = some (bare led) := Heap.get?_push_size _ rfl
      have tS : Shared.TypeIs { s with heap := s.heap.push (bare led) } (.ref s.heap.objs.size) "set" := ⟨_, gS, rfl⟩
      have i1 := PySem.F.called_set.init.lookup
      have i2 := PySem.F.called_set.init.bind (.ref s.heap.objs.size)
      repeat any_goals first | wp_step | assumption
      refine codeAny_mono (codeAny_call_builtin (R := wants (fun r s2 => r = .none ∧ ∃ h2 tk, s2 = { s with heap := h2, toks := tk } ∧ h2.SetOf (PySem.strKind prog w) s.heap.objs.size (fun k' => decide (k' ∈ met [] xs)) (met [] xs).length ∧
        ∀ b o, s.heap.get? b = some o → h2.get? b = some o) E) PySem.F.called_set.init.plain PySem.F.entry_set_init (check_set_init_1 tS ?_)) fun r2 s2 back2 => ?_
      · obtain ⟨ol, gl, cl, nl, dl⟩ := at_
        obtain ⟨ocls, odict, odata, oslots⟩ := ol
        simp only at cl dl
        subst cl; subst dl
        have gl' : (s.heap.push (bare led)).get? src = some { cls := .type "list", dict := odict, data := .seq items nl, slots := oslots } := Heap.get?_push_of_some _ gl
        have u1 := PySem.F.sub_list_set
        have u2 := PySem.F.sub_list_frozenset
        have u3 : (Value.type "list" == Value.type "dict") = false := by decide
        have at2 : (s.heap.push (bare led)).IsList src items := ⟨_, gl', rfl, nl, rfl⟩
        unfold Builtin.«set.__init__» noKeywords Builtin.Frozenset.updateFrom
        generalize hide : pyIter = PI
        wp_walk
        subst hide
        refine wpAny_pyIter_list at2 (wpAny_bind (wpAny_runValue ?_))
        have small : src < s.heap.objs.size := Heap.lt_size gl
        have calm3 : A.in1.in1.in1.handled = none := by simp [calm]
        have z1 : (s.heap.push (bare led)).objs.size = s.heap.objs.size + 1 := Heap.size_push ..
        have d1 : src ≠ (s.heap.push (bare led)).objs.size := by rw [z1]; exact Nat.ne_of_lt (Nat.lt_succ_of_lt small)
        have d2 : s.heap.objs.size ∉ [(s.heap.push (bare led)).objs.size, src] := by
          rw [z1]
          intro hm2
          rcases List.mem_cons.mp hm2 with e | hm2
          · exact Nat.ne_of_lt (Nat.lt_succ_self _) e
          · exact Nat.ne_of_gt small (List.mem_singleton.mp hm2)
        have sz : xs.length = items.size := by rw [← StrsAre.len_eq are, Array.length_toList]
        have vals : ∀ (i : Nat) (v : Value), items[i]? = some v → ∃ t, v = .str (xs.getD i Str.empty) t := fun i v hv => SS.strs_at are i v (by rw [Array.getElem?_toList]; exact hv)
        refine upd_loop (S := s.heap.objs.size) ((Walks.list calm3 _ src d1 items).toS) d2 sz vals (by omega) items.size 0 [] _ (Nat.zero_add _) (Nat.le_refl _) ⟨⟨_, Heap.get?_push_size _ rfl, rfl, rfl⟩, (at2.push _)⟩ ?first ?last
        case first =>
          exact SetOf_congr ((setObjOf_fresh (knd := PySem.strKind prog w) led).setOf (Heap.get?_push_of_some _ gS) (by decide)) (fun _ => rfl) rfl
        case last =>
          intro s' mv so
          obtain ⟨h', g', d', tk', os'⟩ := s'
          obtain rfl : g' = s.gens := mv.gens
          obtain rfl : d' = s.drawn := mv.drawn
          obtain rfl : os' = s.os := mv.os
          refine wpAny_pure (wpAny_pure ⟨rfl, h', tk', rfl, so, fun b o q => ?_⟩)
          have lb : b < s.heap.objs.size := Heap.lt_size q
          refine mv.heap b o (fun hm2 => ?_) (Heap.get?_push_of_some _ (Heap.get?_push_of_some _ q))
          rcases List.mem_cons.mp hm2 with e | hm2
          · exact Nat.ne_of_lt lb e
          · have e2 := List.mem_singleton.mp hm2
            rw [z1] at e2
            exact Nat.ne_of_lt (Nat.lt_succ_of_lt lb) e2
      · cases r2 with
        | error e => exact back2
        | ok fl2 =>
          cases fl2 with
          | next => exact back2.elim
          | brk => exact back2.elim
          | cont => exact back2.elim
          | ret r =>
            obtain ⟨rfl, h2, tk, rfl, so, kp⟩ := back2
            repeat any_goals first | wp_step | assumption
            exact k _ _ so kp
set_option maxHeartbeats 3200000 in
/-- set(tuple of texts) -/
theorem set_tuple {Q : Value → Shared → Prop} (calm : A.handled = none) (at_ : s.heap.IsTuple src items) (are : PyProof.Rows.StrsAre items.toList xs) (few : xs.length + 1 < scanBound)
    (k : ∀ (h2 : Heap) (tk : Nat), h2.SetOf (PySem.strKind prog w) s.heap.objs.size (fun k' => decide (k' ∈ met [] xs)) (met [] xs).length → (∀ b o, s.heap.get? b = some o → h2.get? b = some o) → Q (.ref s.heap.objs.size) { s with heap := h2, toks := tk }) :
    wpAny (model prog w) A (call (.type "set") [.ref src]) Q E s := by
  have m1 := PySem.F.called_set.mro
  obtain ⟨_, _, hm⟩ := m1
  have made := PySem.F.called_set.made
  have below := PySem.F.called_set.sub
  refine wpAny_call (codeAny_of_tree ?_)
  show wpAny _ _ (callAny (Value.type "set") ⟨[Value.ref src], []⟩) _ _ _
  refine wpAny_pure (And.intro (Code.quiet_builtin _ (by decide +kernel)) (codeAny_builtin PySem.F.entry_type_call ?_))
  rw [Around.under_plain (weight_type_call_type "set" [Value.ref src] []) rfl]
  have n1 := PySem.F.called_set.notType
  have n2 := PySem.F.called_set.canCreate
  have n3 := PySem.F.typeCall_set_1 (Value.ref src)
  repeat any_goals first | wp_step | assumption
  refine codeAny_mono (code_set_new_1 (Value.ref src) (E := E) (Q₁ := fun x s1 => ∃ led, x = .ref s.heap.objs.size ∧ s1 = { s with heap := s.heap.push (bare led) }) fun led => ⟨led, rfl, rfl⟩) fun r s1 back => ?_
  cases r with
  | error e => exact back
  | ok fl =>
    cases fl with
    | next => exact back.elim
    | brk => exact back.elim
    | cont => exact back.elim
    | ret x =>
      obtain ⟨led, rfl, rfl⟩ := back
      have gS : (s.heap.push (bare led)).get? s.heap.objs.size = some (bare led) := Heap.get?_push_size _ rfl
      have tS : Shared.TypeIs { s with heap := s.heap.push (bare led) } (.ref s.heap.objs.size) "set" := ⟨_, gS, rfl⟩
      have i1 := PySem.F.called_set.init.lookup
      have i2 := PySem.F.called_set.init.bind (.ref s.heap.objs.size)
      repeat any_goals first | wp_step | assumption
      refine codeAny_mono (codeAny_call_builtin (R := wants (fun r s2 => r = .none ∧ ∃ h2 tk, s2 = { s with heap := h2, toks := tk } ∧ h2.SetOf (PySem.strKind prog w) s.heap.objs.size (fun k' => decide (k' ∈ met [] xs)) (met [] xs).length ∧
        ∀ b o, s.heap.get? b = some o → h2.get? b = some o) E) PySem.F.called_set.init.plain PySem.F.entry_set_init (check_set_init_1 tS ?_)) fun r2 s2 back2 => ?_
      · obtain ⟨ol, gl, cl, nl, dl⟩ := at_
        obtain ⟨ocls, odict, odata, oslots⟩ := ol
        simp only at cl dl
        subst cl; subst dl
        have gl' : (s.heap.push (bare led)).get? src = some { cls := .type "tuple", dict := odict, data := .seq items nl, slots := oslots } := Heap.get?_push_of_some _ gl
        have u1 := PySem.F.sub_tuple_set
        have u2 := PySem.F.sub_tuple_frozenset
        have u3 : (Value.type "tuple" == Value.type "dict") = false := by decide
        have at2 : (s.heap.push (bare led)).IsTuple src items := ⟨_, gl', rfl, nl, rfl⟩
        unfold Builtin.«set.__init__» noKeywords Builtin.Frozenset.updateFrom
        generalize hide : pyIter = PI
        wp_walk
        subst hide
        refine wpAny_pyIter_tuple at2 (wpAny_bind (wpAny_runValue ?_))
        have small : src < s.heap.objs.size := Heap.lt_size gl
        have calm3 : A.in1.in1.in1.handled = none := by simp [calm]
        have z1 : (s.heap.push (bare led)).objs.size = s.heap.objs.size + 1 := Heap.size_push ..
        have d1 : src ≠ (s.heap.push (bare led)).objs.size := by rw [z1]; exact Nat.ne_of_lt (Nat.lt_succ_of_lt small)
        have d2 : s.heap.objs.size ∉ [(s.heap.push (bare led)).objs.size, src] := by
          rw [z1]
          intro hm2
          rcases List.mem_cons.mp hm2 with e | hm2
          · exact Nat.ne_of_lt (Nat.lt_succ_self _) e
          · exact Nat.ne_of_gt small (List.mem_singleton.mp hm2)
        have sz : xs.length = items.size := by rw [← StrsAre.len_eq are, Array.length_toList]
        have vals : ∀ (i : Nat) (v : Value), items[i]? = some v → ∃ t, v = .str (xs.getD i Str.empty) t := fun i v hv => SS.strs_at are i v (by rw [Array.getElem?_toList]; exact hv)
        refine upd_loop (S := s.heap.objs.size) ((Walks.tuple calm3 _ src d1 items).toS) d2 sz vals (by omega) items.size 0 [] _ (Nat.zero_add _) (Nat.le_refl _) ⟨⟨_, Heap.get?_push_size _ rfl, rfl, rfl⟩, (at2.push _)⟩ ?first ?last
        case first =>
          exact SetOf_congr ((setObjOf_fresh (knd := PySem.strKind prog w) led).setOf (Heap.get?_push_of_some _ gS) (by decide)) (fun _ => rfl) rfl
        case last =>
          intro s' mv so
          obtain ⟨h', g', d', tk', os'⟩ := s'
          obtain rfl : g' = s.gens := mv.gens
          obtain rfl : d' = s.drawn := mv.drawn
          obtain rfl : os' = s.os := mv.os
          refine wpAny_pure (wpAny_pure ⟨rfl, h', tk', rfl, so, fun b o q => ?_⟩)
          have lb : b < s.heap.objs.size := Heap.lt_size q
          refine mv.heap b o (fun hm2 => ?_) (Heap.get?_push_of_some _ (Heap.get?_push_of_some _ q))
          rcases List.mem_cons.mp hm2 with e | hm2
          · exact Nat.ne_of_lt lb e
          · have e2 := List.mem_singleton.mp hm2
            rw [z1] at e2
            exact Nat.ne_of_lt (Nat.lt_succ_of_lt lb) e2
      · cases r2 with
        | error e => exact back2
        | ok fl2 =>
          cases fl2 with
          | next => exact back2.elim
          | brk => exact back2.elim
          | cont => exact back2.elim
          | ret r =>
            obtain ⟨rfl, h2, tk, rfl, so, kp⟩ := back2
            repeat any_goals first | wp_step | assumption
            exact k _ _ so kp
end
end Ssb

/-! Sets of texts as tracked things: set(xs), {text for ..}, their len. -/
namespace Ssb
open PySem PySem.Spec PyProof.Rows L2

/-- at a: the set of the texts of l -/
def Txs (P : Program) (w : World) (a : Addr) (l : List Str) : HO := .ext fun h => h.SetOf (PySem.strKind P w) a (fun k => decide (k ∈ l)) l.length
/-- l with x at its end, if it is not there -/
def put1 (l : List Str) (x : Str) : List Str := if x ∈ l then l else l ++ [x]
theorem put1_len (l : List Str) (x : Str) : (put1 l x).length ≤ l.length + 1 := by
  unfold put1
  by_cases h : x ∈ l
  · rw [if_pos h]; omega
  · rw [if_neg h, List.length_append]; exact Nat.le_refl _
section
variable {P : Program} {w : World} {X : Cx}
theorem txs_ok {H : Hp} {h : Heap} {a : Addr} {l : List Str} (r : h.SetOf (PySem.strKind P w) a (fun k => decide (k ∈ l)) l.length) : ObjOk P w H h a (Txs P w a l) := by
  refine ⟨r, ?_, fun g1 g2 p k => ?_⟩
  · obtain ⟨o, _, _, _, q, _⟩ := r; exact ⟨o, q⟩
  · obtain ⟨o, b1, b2, b3, q, r2⟩ := p; exact ⟨o, b1, b2, b3, k o q, r2⟩
theorem txs_at {pins : List (Addr × Obj)} {σ : L2.St} {H : Hp} {s : Shared} {a : Addr} {l : List Str} (I : Inv X pins σ H s) (e : H a = some (Txs X.prog X.w a l)) : s.heap.SetOf (PySem.strKind X.prog X.w) a (fun k => decide (k ∈ l)) l.length := by
  have z : ObjOk X.prog X.w H s.heap a (.ext fun h => h.SetOf (PySem.strKind X.prog X.w) a (fun k => decide (k ∈ l)) l.length) := I.hok a _ e
  exact z.1
/-- one text more -/
theorem txs_add {pins : List (Addr × Obj)} {σ : L2.St} {H : Hp} {s : Shared} {E : Value → Shared → Prop} {a : Addr} {l : List Str} {x : Str} {t : Tok} {Q : Value → Shared → Prop} (I : Inv X pins σ H s) (e : H a = some (Txs X.prog X.w a l)) (few : l.length + 1 < scanBound)
    (k : ∀ s2, Inv X pins σ (upd H a (Txs X.prog X.w a (put1 l x))) s2 → Q .none s2) : wpAny (model X.prog X.w) X.A (call (.builtin "set.add") [.ref a, .str x t]) Q E s := by
  refine PySem.call_set_add (knd := PySem.strKind X.prog X.w) (strKind_is _ _ _ _) rfl (txs_at I e) few fun h2 sb so => ?_
  have so2 : h2.SetOf (PySem.strKind X.prog X.w) a (fun k' => decide (k' ∈ put1 l x)) (put1 l x).length := SetOf_congr so (fun k' => met_in l x k') (met_size l x)
  have there : ∃ u, h2.get? a = some u := by
    obtain ⟨o, _, _, _, q, _⟩ := so2; exact ⟨o, q⟩
  exact k _ (I.write (t' := s.toks + 1) (x := a) (e := a) (by rw [e]; trivial) (.inl rfl) (fun b u hb q => (sb.2 b hb).trans q) there (txs_ok so2))

/-! ### set(xs) -/
def rSetS (K : PySem.W.Frag) (P : Program) (w : World) : List V → Hp → VK → Prop := fun vs H Q => ∃ (a : Addr) (xs : List Str), vs = [.ref a] ∧ (SqL K H a (xs.map V.str) ∨ SqT K H a (xs.map V.str)) ∧ xs.length + 1 < scanBound ∧
  ∀ p, H p = none → Q (.ref p) (upd H p (Txs P w p (met [] xs)))
theorem cr_setS (hc : X.calm = true) : CallR X (.type "set") (rSetS X.K X.prog X.w) := by
  intro pins s σ H vs us Q I r q
  obtain ⟨a, xs, rfl, sq, few, k⟩ := q
  rw [Vals.ref1 r]
  have new : H s.heap.objs.size = none := I.hok.fresh (Nat.le_refl _)
  have done : ∀ (h2 : Heap) (tk : Nat), h2.SetOf (PySem.strKind X.prog X.w) s.heap.objs.size (fun k' => decide (k' ∈ met [] xs)) (met [] xs).length → (∀ b o, s.heap.get? b = some o → h2.get? b = some o) → EP X pins σ Q (.ref s.heap.objs.size) { s with heap := h2, toks := tk } :=
    fun h2 tk so kp => ⟨.ref s.heap.objs.size, upd H s.heap.objs.size (Txs X.prog X.w s.heap.objs.size (met [] xs)), I.laid (t' := tk) kp (Nat.le_refl _) (txs_ok so), rfl, k _ new⟩
  rcases sq with sq | sq
  · obtain ⟨its, rv, pl, _⟩ := I.list sq
    exact set_list (I.ok.hd hc) pl.isList (by simpa using strsAre_of rv) few done
  · obtain ⟨its, rv, pl, _⟩ := I.tuple sq
    exact set_tuple (I.ok.hd hc) pl (by simpa using strsAre_of rv) few done
/-! ### len of it -/
def rLenTxs (P : Program) (w : World) : List V → Hp → VK → Prop := fun vs H Q => ∃ (a : Addr) (l : List Str), vs = [.ref a] ∧ H a = some (Txs P w a l) ∧ l.length < 1000000 ∧ Q (.int l.length) H
theorem call_lenTxs : CallR X (.builtin "len") (rLenTxs X.prog X.w) := by
  intro pins s σ H vs us Q I r q
  obtain ⟨a, l, rfl, e, few, k⟩ := q
  rw [Vals.ref1 r]
  obtain ⟨o, es, ep, t, ho, ex, dt, _, _, _, fits, n⟩ := txs_at I e
  refine PySem.call_len_set ho ex dt fits (by rw [n]; omega) ⟨.int l.length, H, I.tok _, ⟨_, by rw [n]⟩, k⟩
end

/-! ### {text for ..} -/
/-- the reading: D, the new set -/
def tTxs (P : Program) (w : World) (wi : TI) (g : TG) (tt : TT) (te : TE) (vs : List Nat) : TE := fun σ H Q => wi σ H fun J H1 => ∀ D, H1 D = none → ∃ W : Nat → Nat → Hp → Prop, (∃ m, W 0 m (upd H1 D (Txs P w D []))) ∧ ∀ i m H, W i m H →
  (J.stop i H ∧ Q (.ref D) H) ∨ (J.go i H ∧ ∃ Nx : Hp → Prop, (∀ H', Nx H' → ∃ m', m' < m ∧ W (i + 1) m' H') ∧ ∀ x H', J.yld i H x H' → g x (wipe σ vs) H' fun σ2 H2 => wipe σ2 vs = wipe σ vs ∧ tt σ2 H2 fun b H3 =>
    if b = true then te σ2 H3 fun y H4 => ∃ (z : Str) (l : List Str), y = .str z ∧ H4 D = some (Txs P w D l) ∧ l.length + 1 < scanBound ∧ Nx (upd H4 D (Txs P w D (put1 l z))) else Nx H3)
section
variable {X : Cx} {elt tg iter : Expr} {ifs : List Expr} {scope : Scope} {own : List (PySem.Str × Nat)} {pos pos' : Pos} {wi : TI} {g : TG} {tt : TT} {te : TE}
theorem pe_scT (hc : X.calm = true) (hN : X.N.Nodup) (hi : PI X tg iter wi) (ok : BlkOk X.N X.env.scope scope own)
    (hg : ∀ (u : Shared) (B : Hp) (C : Addr) (cl : List (PySem.Str × Addr)) (fp : List Addr), PG (X.blk u B scope (compEnvC scope cl C X.env) fp) tg g)
    (ht : ∀ (u : Shared) (B : Hp) (C : Addr) (cl : List (PySem.Str × Addr)) (fp : List Addr), PTs (X.blk u B scope (compEnvC scope cl C X.env) fp) ifs tt)
    (he : ∀ (u : Shared) (B : Hp) (C : Addr) (cl : List (PySem.Str × Addr)) (fp : List Addr), PE (X.blk u B scope (compEnvC scope cl C X.env) fp) elt te)
    (hf : ∀ x, foldedSetIterable iter X.env x = pure x := by intro _; rfl) :
    PE X (.SetComp elt [⟨tg, iter, ifs, 0⟩] scope pos) (tTxs X.prog X.w wi g tt te (own.map (·.2))) := by
  refine ⟨fun pins s σ H Q I red => ?_⟩
  rw [PpSet.eval_SetComp]
  have caught : ∀ y ∈ scope.names, y.2 = .free → ∃ c, X.env.cells.lookup y.1 = some c := fun y hy e => (ok.free y hy e).elim (fun k => I.ok.has _ (.inl k)) fun k => I.ok.has _ (.inr k)
  refine wpAny_comprehension_free rfl hf (closure_ok caught) ok.kind (fun y hy e => by rw [ok.uniq y hy, e]) (thn (hi.run pins s σ H _ I red) fun _ s1 r1 => thn r1 fun _ s2 r2 => ?_)
  obtain ⟨it, fp, at_, J, H2, rfl, I2, T, now, apart, rest⟩ := r2
  refine PpSet.newSet_ok (newEnv_comp ?_)
  have noD : H2 s2.heap.objs.size = none := I2.hok.fresh (Nat.le_refl _)
  obtain ⟨W, ⟨m0, w0⟩, turn⟩ := rest _ noD
  generalize eD : s2.heap.objs.size = D at noD w0 turn ⊢
  generalize e3 : ({ s2 with heap := s2.heap.push (bare (!X.w.params.followText "set-order")) } : Shared) = s3
  have g3 : s3.heap = s2.heap.push (bare (!X.w.params.followText "set-order")) := by rw [← e3]
  generalize eH3 : upd H2 D (Txs X.prog X.w D []) = H3 at w0
  have I3 : Inv X pins σ H3 s3 := by
    rw [← e3, ← eH3]
    refine I2.laid (t' := s2.toks) (fun b o q => Heap.get?_push_of_some _ q) (Nat.le_of_eq eD) (txs_ok ?_)
    rw [← eD]
    exact SetOf_congr ((setObjOf_fresh (knd := PySem.strKind X.prog X.w) _).setOf (Heap.get?_push_size _ rfl) (by decide)) (fun _ => rfl) rfl
  have low : ∀ b ∈ fp, b < s2.heap.objs.size := fun b hb => by
    obtain ⟨o, q, _⟩ := T.obj _ _ now b hb; exact Heap.lt_size q
  have fp3 : ∀ b ∈ fp, FpOk X pins H3 b ∧ b < s3.heap.objs.size := fun b hb => by
    refine ⟨⟨?_, (apart b hb).2⟩, by rw [g3, Heap.size_push]; exact Nat.lt_succ_of_lt (low b hb)⟩
    rw [← eH3, upd_ne (by rw [← eD]; exact Nat.ne_of_lt (low b hb))]
    exact (apart b hb).1
  have now3 : at_ 0 s3.heap := T.keep _ _ _ now fun b _ o q => by rw [g3]; exact Heap.get?_push_of_some _ q
  have B4 := block_start I3 ok hN fp3
  generalize eC : compEnvC scope (cellsFrom (s3.heap.objs.size + 1) scope.names (cloFrom X.env.cells scope.names [])) s3.heap.objs.size X.env = ce at B4
  have pG : PG (X.blk s3 H3 scope ce fp) tg g := by rw [← eC]; exact hg _ _ _ _ _
  have pT : PTs (X.blk s3 H3 scope ce fp) ifs tt := by rw [← eC]; exact ht _ _ _ _ _
  have pE : PE (X.blk s3 H3 scope ce fp) elt te := by rw [← eC]; exact he _ _ _ _ _
  have eL : ce.locals = s3.heap.objs.size := by rw [← eC]; rfl
  have fpN : ∀ b ∈ fp, H3 b = none := fun b hb => (fp3 b hb).1.1
  generalize e4 : ({ s3 with heap := pushCells (s3.heap.push { cls := .type "dict", data := .dict #[] }) scope.names } : Shared) = s4 at B4
  have now4 : at_ 0 s4.heap := T.keep _ _ _ now3 fun b _ o q => by rw [← e4]; exact pushCells_keeps _ _ _ _ (Heap.get?_push_of_some _ q)
  show codeAny _ _ (.compStart (.SetComp elt [⟨tg, iter, ifs, 0⟩] scope pos) 0 (.ref it) (.ref D) (compEnvC scope (cellsFrom (s3.heap.objs.size + 1) scope.names (cloFrom X.env.cells scope.names [])) s3.heap.objs.size X.env)) (compPost _ _ _ none _ (.ref D) s3.heap.objs.size) s4
  rw [eC]
  have fpOk : ∀ {σ' : L2.St} {H' : Hp} {s' : Shared}, Inv (X.blk s3 H3 scope ce fp) [] σ' H' s' → (∀ b ∈ fp, H' b = none) → ∀ b ∈ fp, FpOk (X.blk s3 H3 scope ce fp) [] H' b := fun {_ _ _} J' no b hb =>
    ⟨no b hb, (J'.ok.exf b hb).1, J'.ok.exfs b hb, .inl hb, fun x c q => (J'.ok.exf b hb).2 x c q, fun p hp => nomatch (show p ∈ ([] : List (Addr × Obj)) from hp)⟩
  refine PpSet.codeAny_compStart_set ?_ (T.self X.A 0 _ _ _ now4 ?_)
  all_goals
    refine PpSet.compLoopS_any (fun m u => ∃ i G, Inv (X.blk s3 H3 scope ce fp) [] (wipe σ (own.map (·.2))) G u ∧ at_ i u.heap ∧ (∀ b ∈ fp, G b = none) ∧ W i m G) ?_ m0 ⟨0, H3, B4, now4, fpN, w0⟩
    rintro m u ⟨i, G, B5, now5, no5, w5⟩
    rcases turn i m G w5 with ⟨stop, fin⟩ | ⟨go, Nx, less, step⟩
    · refine thnF (T.done (X.blk s3 H3 scope ce fp) rfl rfl rfl hc i [] u _ G (fun _ _ => False) B5 (fpOk B5 no5) now5 stop) fun r s6 ⟨er, B6⟩ => ?_
      subst er
      have I7 : Inv X pins σ G s6 := I3.call' (ch := fp) B6.os B6.base B6.hok B6.bare fun b hb => ⟨(fp3 b hb).1.2.2.2.1, (fp3 b hb).1.2.1, (fp3 b hb).1.2.2.2.2.1, (fp3 b hb).1.2.2.2.2.2⟩
      obtain ⟨mm, ns, _⟩ := B6.loc
      have ns : s6.heap.Ns ce.locals mm := ns
      have noC : G ce.locals = none := B6.free
      rw [eL] at ns noC
      obtain ⟨f0, f1, f2, f3, f4, f5⟩ := I3.fpOk (Nat.le_refl _) noC
      exact ⟨mm, ns, fun h'' sb => ⟨.ref D, G, I7.turned (t' := s6.toks) (fun b o hb q => (sb.2 b hb).trans q) f0 f1 f3 f4 f5, rfl, fin⟩⟩
    · refine thnF (T.item (X.blk s3 H3 scope ce fp) rfl rfl rfl hc i [] u _ G (fun _ _ => False) B5 (fpOk B5 no5) now5 go) fun r s6 ⟨v, er, r6⟩ => ?_
      subst er
      refine thnF r6 fun _ s7 ⟨x, G7, B7, rx, y7, now7, no7⟩ => ?_
      refine thnF (pG.run _ s7 _ G7 x v _ (B7.pinned (fpOk B7 no7) (T.obj _ _ now7)) rx (step x G7 y7)) fun _ s8 ⟨σ8, G8, B8, wp8, q8⟩ => ?_
      refine thnF (pT.run _ s8 σ8 G8 _ B8 q8) fun b s9 ⟨G9, B9, q9⟩ => ?_
      have close : ∀ {u' : Shared} {G' : Hp}, Inv (X.blk s3 H3 scope ce fp) ([] ++ pinsAt fp s7.heap) σ8 G' u' → Nx G' → ∃ m', m' < m ∧ ∃ i' G2, Inv (X.blk s3 H3 scope ce fp) [] (wipe σ (own.map (·.2))) G2 u' ∧ at_ i' u'.heap ∧ (∀ b ∈ fp, G2 b = none) ∧ W i' m' G2 := fun {u' G'} B' nx => by
        obtain ⟨m', lt, w'⟩ := less G' nx
        have held : ∀ b ∈ fp, ∀ o, s7.heap.get? b = some o → u'.heap.get? b = some o ∧ G' b = none := fun b hb o q =>
          ⟨(B'.pin (b, o) (List.mem_append_right _ (List.mem_append_right _ (mem_pinsAt hb q)))).1, (B'.pin (b, o) (List.mem_append_right _ (List.mem_append_right _ (mem_pinsAt hb q)))).2.1⟩
        refine ⟨m', lt, i + 1, G', (B'.unpinned (pins := [])).weak (by rw [← wp8, wipe_length]) (fun j z e => (wipe_some (by rw [wp8]; exact e)).1), T.keep _ _ _ now7 fun b hb o q => (held b hb o q).1, fun b hb => ?_, w'⟩
        obtain ⟨o, q, _⟩ := T.obj _ _ now7 b hb
        exact (held b hb o q).2
      cases b with
      | false =>
        simp only [Bool.false_eq_true, if_false] at q9 ⊢
        exact close B9 q9
      | true =>
        simp only [if_true] at q9 ⊢
        refine thnF (pE.run _ s9 σ8 G9 _ B9 q9) fun z s10 ⟨yv, G10, B10, r10, tx, l0, ey, at10, few, nx⟩ => ?_
        subst ey
        obtain ⟨tk, rfl⟩ := (show ∃ t, z = Value.str tx t from r10)
        exact txs_add (X := X.blk s3 H3 scope ce fp) B10 at10 few fun s11 B11 => close B11 nx
end
end Ssb

/-! Words: a def and its promise in one; data on the heap; loops over dicts. -/
namespace Ssb
open PySem PySem.Spec PyProof.Rows L2
open Evl (Ex Ev EvT EvL EvA EvU)

/-! ### a def of the module, a method of a class, and its promise -/
structure Fn (P : Program) (w : World) (K : PySem.W.Frag) (mg : Str → Option Value) (base : Heap) (nm : Str) (k : Nat) (ps : List Str) (sp : Sp) (f : Addr) (fd : FuncData) : Prop where
  ok : FnOk P w K mg base CX0 k f fd ps sp
  at_ : mg nm = some (.ref f)
  kp : PySem.W.keepIn K (.ref f) = true
  bd : Binds K fd ps []
structure Mt (P : Program) (w : World) (K : PySem.W.Frag) (mg : Str → Option Value) (base : Heap) (C : Addr) (nm : Str) (k : Nat) (ps : List Str) (sp : Sp) (f : Addr) (fd : FuncData) : Prop where
  ok : FnOk P w K mg base CX0 k f fd ps sp
  mt : Meth K C nm f
  bd : Binds K fd ps []
section
variable {X : Cx} {nm : Str} {k j : Nat} {ps : List Str} {sp : Sp} {f : Addr} {fd : FuncData} {p pos : Pos} {e : Expr} {es : List Expr} {t : TA}
theorem pcl (G : Fn X.prog X.w X.K X.mg X.base nm k ps sp f fd) (hr : Room j X.A) (ha : PA X (e :: es) t) (hj : k ≤ j := by first | decide | omega) (hg : Gl X nm := by rfl) (hdb : (nm == ("__debug__" : Str)) = false := by decide)
    (he : starEach (e :: es) X.env = (false, eval e X.env) :: starEach es X.env := by rfl) (hpl : (backTo pos (starEach es X.env)).any (·.1) = false := by rfl) : PE X (.Call (.Name nm p) (e :: es) [] pos) (tCall sp [] E0 t) :=
  pe_call G.ok (hr.mono hj) hg G.at_ G.kp G.bd .nil pass0 ha hdb he hpl
variable {o : Expr} {ta : TE} {apos : Pos} {C : Addr} {pl : Sem Bool}
theorem pmt (ho : PE X o ta) (c : Cls X.K C) (G : Mt X.prog X.w X.K X.mg X.base C nm k ps sp f fd) (hr : Room j X.A) (ha : PA X (e :: es) t) (hj : k ≤ j := by first | decide | omega)
    (he : starEach (e :: es) X.env = (false, eval e X.env) :: starEach es X.env := by rfl) (hpl : (backTo pos (starEach es X.env)).any (·.1) = false := by rfl)
    (ht : eval (.Call (.Attribute o nm apos) (e :: es) [] pos) X.env = (do
      let ov ← eval o X.env
      standAt apos.atName
      let (f, first) ← holding [ov] (getMethod ov nm pl)
      callWith pos f first (backTo pos (starEach (e :: es) X.env)) (backToKw pos (keywordEach [] X.env))) := by rfl) : PE X (.Call (.Attribute o nm apos) (e :: es) [] pos) (tMeth C nm sp [] E0 ta t) :=
  pe_meth ho c G.mt G.ok (hr.mono hj) G.bd .nil pass0 ha he hpl ht
theorem pmt0 (ho : PE X o ta) (c : Cls X.K C) (G : Mt X.prog X.w X.K X.mg X.base C nm k ps sp f fd) (hr : Room j X.A) (hj : k ≤ j := by first | decide | omega)
    (ht : eval (.Call (.Attribute o nm apos) [] [] pos) X.env = (do
      let ov ← eval o X.env
      standAt apos.atName
      let (f, first) ← holding [ov] (getMethod ov nm pl)
      callWith pos f first (backTo pos (starEach [] X.env)) (backToKw pos (keywordEach [] X.env))) := by rfl) : PE X (.Call (.Attribute o nm apos) [] [] pos) (tMeth C nm sp [] E0 ta tNil) :=
  pe_meth0 ho c G.mt G.ok (hr.mono hj) G.bd .nil pass0 ht
/-- a test that is never asked -/
def tNeverT : TT := fun _ _ _ => False
theorem pt_unseen : PT X e tNeverT := ⟨fun _ _ _ _ _ _ h => h.elim⟩
def tNeverE : TE := fun _ _ _ => False
theorem pe_unseen : PE X e tNeverE := ⟨fun _ _ _ _ _ _ h => h.elim⟩
end

/-! ### data, as they stand on the heap: lists and dicts at places of S, a dict never within itself -/
inductive D where
  | non | bl (b : Bool) | int (i : Int) | str (s : Str) | lst (l : List D) | tup (l : List D) | dic (l : List (Str × D))
def Rep (H : Hp) : Nat → (Addr → Prop) → D → V → Prop
  | 0, _, _, _ => False
  | _ + 1, _, .non, v => v = .non
  | _ + 1, _, .bl b, v => v = .bl b
  | _ + 1, _, .int i, v => v = .int i
  | _ + 1, _, .str s, v => v = .str s
  | n + 1, S, .lst l, v => ∃ a xs, v = .ref a ∧ S a ∧ H a = some (.lst xs) ∧ l.length ≤ 100000 ∧ Paired (fun d x => Rep H n S d x) l xs
  | n + 1, S, .tup l, v => ∃ a xs, v = .ref a ∧ H a = some (.tup xs) ∧ l.length ≤ 100000 ∧ Paired (fun d x => Rep H n S d x) l xs
  | n + 1, S, .dic l, v => ∃ a es, v = .ref a ∧ S a ∧ H a = some (.dK es) ∧ l.length ≤ 100000 ∧ Paired (fun (q : Str × D) (e : Key × V) => e.1 = Sum.inr q.1 ∧ Rep H n (fun b => S b ∧ b ≠ a) q.2 e.2) l es
theorem pair_imp {α β : Type} {F G : α → β → Prop} : ∀ {l : List α} {m : List β}, Paired F l m → (∀ a b, F a b → G a b) → Paired G l m
  | _, _, .nil, _ => .nil
  | _, _, .cons h t, k => .cons (k _ _ h) (pair_imp t k)
theorem pair_len {α β : Type} {F : α → β → Prop} : ∀ {l : List α} {m : List β}, Paired F l m → l.length = m.length
  | _, _, .nil => rfl
  | _, _, .cons _ t => congrArg (· + 1) (pair_len t)
theorem pair_at {α β : Type} {F : α → β → Prop} : ∀ {l : List α} {m : List β} {i : Nat} {a : α}, Paired F l m → l[i]? = some a → ∃ b, m[i]? = some b ∧ F a b
  | _, _, _, _, .nil, e => by simp at e
  | _, _, 0, _, .cons h _, e => by
    simp at e; subst e; exact ⟨_, rfl, h⟩
  | _, _, i + 1, _, .cons _ t, e => by
    obtain ⟨b, h1, h2⟩ := pair_at (i := i) t (by simpa using e)
    exact ⟨b, by simpa using h1, h2⟩
theorem pair_back {α β : Type} {F : α → β → Prop} : ∀ {l : List α} {m : List β} {i : Nat} {b : β}, Paired F l m → m[i]? = some b → ∃ a, l[i]? = some a ∧ F a b
  | _, _, _, _, .nil, e => by simp at e
  | _, _, 0, _, .cons h _, e => by
    simp at e; subst e; exact ⟨_, rfl, h⟩
  | _, _, i + 1, _, .cons _ t, e => by
    obtain ⟨b, h1, h2⟩ := pair_back (i := i) t (by simpa using e)
    exact ⟨b, by simpa using h1, h2⟩
theorem pair_app {α β : Type} {F : α → β → Prop} : ∀ {l l' : List α} {m m' : List β}, Paired F l m → Paired F l' m' → Paired F (l ++ l') (m ++ m')
  | _, _, _, _, .nil, t => t
  | _, _, _, _, .cons h r, t => .cons h (pair_app r t)
theorem pair_snoc {α β : Type} {F : α → β → Prop} {l : List α} {m : List β} {a : α} {b : β} (p : Paired F l m) (h : F a b) : Paired F (l ++ [a]) (m ++ [b]) := pair_app p (.cons h .nil)
/-- what is told at the places of S (and of tuples) is all that counts -/
theorem rep_to {H H' : Hp} : ∀ {n : Nat} {S : Addr → Prop} {d : D} {v : V}, (∀ b o, H b = some o → (S b ∨ ∃ xs, o = .tup xs) → H' b = some o) → Rep H n S d v → Rep H' n S d v
  | 0, _, _, _, _, h => h.elim
  | n + 1, S, d, v, k, h => by
    cases d with
    | non => exact h
    | bl b => exact h
    | int i => exact h
    | str s => exact h
    | lst l =>
      obtain ⟨a, xs, e, s, ha, hl, p⟩ := h
      exact ⟨a, xs, e, s, k a _ ha (.inl s), hl, pair_imp p fun d x r => rep_to k r⟩
    | tup l =>
      obtain ⟨a, xs, e, ha, hl, p⟩ := h
      exact ⟨a, xs, e, k a _ ha (.inr ⟨xs, rfl⟩), hl, pair_imp p fun d x r => rep_to k r⟩
    | dic l =>
      obtain ⟨a, es, e, s, ha, hl, p⟩ := h
      exact ⟨a, es, e, s, k a _ ha (.inl s), hl, pair_imp p fun q x r => ⟨r.1, rep_to (fun b o hb z => k b o hb (z.imp (·.1) id)) r.2⟩⟩
theorem rep_ex {H H' : Hp} {n : Nat} {S : Addr → Prop} {d : D} {v : V} (e : Ex H H') (h : Rep H n S d v) : Rep H' n S d v := rep_to (fun b o hb _ => e b o hb) h
theorem rep_S {H : Hp} : ∀ {n : Nat} {S S' : Addr → Prop} {d : D} {v : V}, (∀ b, S b → S' b) → Rep H n S d v → Rep H n S' d v
  | 0, _, _, _, _, _, h => h.elim
  | n + 1, S, S', d, v, k, h => by
    cases d with
    | non => exact h
    | bl b => exact h
    | int i => exact h
    | str s => exact h
    | lst l =>
      obtain ⟨a, xs, e, s, ha, hl, p⟩ := h
      exact ⟨a, xs, e, k a s, ha, hl, pair_imp p fun d x r => rep_S k r⟩
    | tup l =>
      obtain ⟨a, xs, e, ha, hl, p⟩ := h
      exact ⟨a, xs, e, ha, hl, pair_imp p fun d x r => rep_S k r⟩
    | dic l =>
      obtain ⟨a, es, e, s, ha, hl, p⟩ := h
      exact ⟨a, es, e, k a s, ha, hl, pair_imp p fun q x r => ⟨r.1, rep_S (fun b z => ⟨k b z.1, z.2⟩) r.2⟩⟩
theorem rep_up {H : Hp} : ∀ {n : Nat} {S : Addr → Prop} {d : D} {v : V}, Rep H n S d v → Rep H (n + 1) S d v
  | 0, _, _, _, h => h.elim
  | n + 1, S, d, v, h => by
    cases d with
    | non => exact h
    | bl b => exact h
    | int i => exact h
    | str s => exact h
    | lst l =>
      obtain ⟨a, xs, e, s, ha, hl, p⟩ := h
      exact ⟨a, xs, e, s, ha, hl, pair_imp p fun d x r => rep_up r⟩
    | tup l =>
      obtain ⟨a, xs, e, ha, hl, p⟩ := h
      exact ⟨a, xs, e, ha, hl, pair_imp p fun d x r => rep_up r⟩
    | dic l =>
      obtain ⟨a, es, e, s, ha, hl, p⟩ := h
      exact ⟨a, es, e, s, ha, hl, pair_imp p fun q x r => ⟨r.1, rep_up r.2⟩⟩
/-- behind a lock of a, which S does not hold -/
theorem rep_lock {H : Hp} {n : Nat} {S : Addr → Prop} {d : D} {v : V} {a : Addr} {es : List (Key × V)} {u : HO} (ha : H a = some (.dK es)) (hS : ∀ b, S b → b ≠ a) (h : Rep H n S d v) : Rep (upd H a u) n S d v :=
  rep_to (fun b o hb z => by
    have ne : b ≠ a := by
      rcases z with z | ⟨xs, rfl⟩
      · exact hS b z
      · intro e; rw [e, ha] at hb; cases hb
    rw [upd_ne ne]; exact hb) h

/-! ### what a dict tells -/
theorem lk_cons {α : Type} (k j : Str) (d : α) (l : List (Str × α)) : List.lookup k ((j, d) :: l) = if k = j then some d else List.lookup k l := by
  by_cases h : k = j
  · subst h; simp [List.lookup]
  · have e : (k == j) = false := by simpa using h
    rw [if_neg h]; simp [List.lookup, e]
theorem vV_cons (k : Key) (e : Key × V) (l : List (Key × V)) : valV (e :: l) k = if e.1 = k then some e.2 else valV l k := by
  unfold valV
  rw [List.find?_cons]
  by_cases h : e.1 = k
  · rw [decide_eq_true h, if_pos h]; rfl
  · rw [decide_eq_false h, if_neg h]
theorem pair_lk {F : D → V → Prop} : ∀ {l : List (Str × D)} {es : List (Key × V)}, Paired (fun (q : Str × D) (e : Key × V) => e.1 = Sum.inr q.1 ∧ F q.2 e.2) l es → ∀ {k : Str} {d : D}, l.lookup k = some d → ∃ v, valV es (Sum.inr k : Key) = some v ∧ F d v
  | _, _, .nil, k, d, h => by simp [List.lookup] at h
  | (j, d0) :: l, e :: es, .cons h t, k, d, hk => by
    rw [lk_cons] at hk
    rw [vV_cons]
    by_cases c : k = j
    · rw [if_pos c] at hk
      cases hk
      exact ⟨e.2, by rw [if_pos (by rw [h.1, c])], h.2⟩
    · rw [if_neg c] at hk
      obtain ⟨v, h1, h2⟩ := pair_lk t hk
      exact ⟨v, by rw [if_neg (by rw [h.1]; intro z; exact c (Sum.inr.inj z).symm)]; exact h1, h2⟩
theorem pair_no {F : D → V → Prop} : ∀ {l : List (Str × D)} {es : List (Key × V)}, Paired (fun (q : Str × D) (e : Key × V) => e.1 = Sum.inr q.1 ∧ F q.2 e.2) l es → ∀ {k : Str}, l.lookup k = none → valV es (Sum.inr k : Key) = none
  | _, _, .nil, k, h => rfl
  | (j, d0) :: l, e :: es, .cons h t, k, hk => by
    rw [lk_cons] at hk
    rw [vV_cons]
    by_cases c : k = j
    · rw [if_pos c] at hk; cases hk
    · rw [if_neg c] at hk
      rw [if_neg (by rw [h.1]; intro z; exact c (Sum.inr.inj z).symm)]
      exact pair_no t hk

/-! ### expressions that only make objects -/
/-- te gives a v of which P holds (P stays when objects are made) -/
def EvP (te : TE) (σ : L2.St) (H : Hp) (P : V → Hp → Prop) : Prop := ∀ H1, Ex H H1 → ∀ Q : VK, (∀ v H2, Ex H1 H2 → P v H2 → Q v H2) → te σ H1 Q
section
variable {K : PySem.W.Frag} {σ : L2.St} {H H' : Hp} {te ta tb tc : TE} {v x y z : V} {t u : TT}
theorem Ev.p {P : V → Hp → Prop} (h : Ev te σ H v) (hp : ∀ H1, Ex H H1 → P v H1) : EvP te σ H P := fun H1 e Q q => h H1 e Q fun H2 e2 => q v H2 e2 (hp H2 (e.trans e2))
theorem ev_chain {r r' : R2} {b1 b2 : Bool} (ha : Ev ta σ H x) (hb : Ev tb σ H y) (hc : Ev tc σ H z) (h1 : Evl.RV r x y H (.bl b1)) (h2 : Evl.RV r' y z H (.bl b2)) : Ev (tChain r r' ta tb tc) σ H (.bl (b1 && b2)) := fun H1 e Q q =>
  ha H1 e _ fun H2 e2 => hb H2 (e.trans e2) _ fun H3 e3 => h1 H3 ((e.trans e2).trans e3) _ fun H4 e4 => ⟨b1, rfl, by
    cases b1 with
    | true => exact hc H4 (((e.trans e2).trans e3).trans e4) _ fun H5 e5 => h2 H5 ((((e.trans e2).trans e3).trans e4).trans e5) Q fun H6 e6 => q H6 ((((e2.trans e3).trans e4).trans e5).trans e6)
    | false => exact q H4 ((e2.trans e3).trans e4)⟩
theorem ev_isi {n : String} {ty : Value} {b : Bool} (h : Ev te σ H x) (hty : ∀ H1, Ex H H1 → TyX K H1 x ty) (hk : PySem.W.kitOne K ty (.type n) = some b) : Ev (tCB (rIsi K) (tCons te (tCons (tC (.ty n)) tNil))) σ H (.bl b) := fun H1 e Q q =>
  h H1 e _ fun H2 e2 => ⟨x, .ty n, ty, .type n, b, rfl, .ty n, hty H2 (e.trans e2), hk, q H2 e2⟩
theorem ev_isi2 {n m : String} {ty : Value} {b : Bool} (h : Ev te σ H x) (hty : ∀ H1, Ex H H1 → TyX K H1 x ty) (hk : PySem.W.kitAny K ty [.type n, .type m] = some b) :
    Ev (tCB (rIsiT K) (tCons te (tCons (tTup (tCons (tC (.ty n)) (tCons (tC (.ty m)) tNil))) tNil))) σ H (.bl b) := fun H1 e Q q =>
  h H1 e _ fun H2 e2 => ⟨(by show 2 ≤ sizeLine; decide), fun p hp => ⟨x, p, [.ty n, .ty m], ty, [.type n, .type m], b, rfl, upd_same, .cons (.ty n) (.cons (.ty m) .nil), hty _ ((e.trans e2).trans (Ex.new hp)), hk, q _ (e2.trans (Ex.new hp))⟩⟩
theorem ev_all {bs : List Bool} (h : EvL te σ H (bs.map V.bl)) : Ev (tCB (rAll K) (tCons te tNil)) σ H (.bl (bs.all id)) := fun H1 e Q q =>
  h H1 e _ fun p H2 _ e2 hp => ⟨p, bs, rfl, Evl.sq_of hp, q H2 e2⟩
theorem ev_lenS {s : Str} (h : Ev te σ H (.str s)) (hs : s.length ≤ 100000) : Ev (tCB (fun xs H Q => ∃ x n, xs = [x] ∧ LenV K x H n ∧ Q (.int n) H) (tCons te tNil)) σ H (.int (s.length : Int)) := fun H1 e Q q =>
  h H1 e _ fun H2 e2 => ⟨.str s, s.length, rfl, ⟨Evl.sz_of hs, rfl⟩, q H2 e2⟩
theorem ev_lenL {a : Addr} {xs : List V} (h : Ev te σ H (.ref a)) (hx : SqL K H a xs ∨ SqT K H a xs) : Ev (tCB (fun xs H Q => ∃ x n, xs = [x] ∧ LenV K x H n ∧ Q (.int n) H) (tCons te tNil)) σ H (.int (xs.length : Int)) := fun H1 e Q q =>
  h H1 e _ fun H2 e2 => ⟨.ref a, xs.length, rfl, hx.imp (fun z => ⟨xs, Evl.ex_l (e.trans e2) z, rfl⟩) fun z => ⟨xs, Evl.ex_t (e.trans e2) z, rfl⟩, q H2 e2⟩
theorem ev_lenK {a : Addr} {es : List (Key × V)} (h : Ev te σ H (.ref a)) (hx : H a = some (.dK es)) : Ev (tCB (fun xs H Q => ∃ a kvs, xs = [V.ref a] ∧ H a = some (.dK kvs) ∧ Q (.int kvs.length) H) (tCons te tNil)) σ H (.int (es.length : Int)) := fun H1 e Q q =>
  h H1 e _ fun H2 e2 => ⟨a, es, rfl, (e.trans e2) a _ hx, q H2 e2⟩
theorem ev_lenSet {P : Program} {w : World} {a : Addr} {l : List Str} (h : Ev te σ H (.ref a)) (hx : SqL K H a (l.map V.str) ∨ SqT K H a (l.map V.str)) (few : l.length ≤ 1000) :
    Ev (tCB (rLenTxs P w) (tCons (tCB (rSetS K P w) (tCons te tNil)) tNil)) σ H (.int ((met [] l).length : Int)) := fun H1 e Q q =>
  h H1 e _ fun H2 e2 => ⟨a, l, rfl, hx.imp (Evl.ex_l (e.trans e2)) (Evl.ex_t (e.trans e2)), Nat.lt_of_le_of_lt (Nat.add_le_add_right few 1) (by decide), fun p hp => ⟨p, met [] l, rfl, upd_same, by have := met_len l []; simp only [List.length_nil] at this; omega, q _ (e2.trans (Ex.new hp))⟩⟩
theorem ev_get {a : Addr} {es : List (Key × V)} {k : Str} (h : Ev ta σ H (.ref a)) (hk : Ev tb σ H (.str k)) (hx : Rd H a (.dK es)) (hv : valV es (Sum.inr k : Key) = some v) : Ev (tDGet ta tb) σ H v := fun H1 e Q q =>
  h H1 e _ fun H2 e2 => hk H2 (e.trans e2) _ fun H3 e3 => ⟨a, v, rfl, .inl ⟨es, Sum.inr k, Evl.ex_rd ((e.trans e2).trans e3) hx, rfl, hv.symm⟩, q H3 (e2.trans e3)⟩
theorem ev_din {a : Addr} {es : List (Key × V)} {k : Str} (hk : Ev tb σ H (.str k)) (h : Ev ta σ H (.ref a)) (hx : Rd H a (.dK es)) : Ev (tDIn tb ta) σ H (.bl (valV es (Sum.inr k : Key)).isSome) := fun H1 e Q q =>
  hk H1 e _ fun H2 e2 => h H2 (e.trans e2) _ fun H3 e3 => ⟨a, valV es (Sum.inr k), rfl, .inl ⟨es, Sum.inr k, Evl.ex_rd ((e.trans e2).trans e3) hx, rfl, rfl⟩, q H3 (e2.trans e3)⟩
/-- a call whose answer is a plain value -/
theorem ev_fn {sp : Sp} {vs : List V} {ta : TA} (h : EvA ta σ H vs) (hs : ∀ H1, Ex H H1 → ∀ Q : VK, (∀ H2, Ex H1 H2 → Q z H2) → sp vs H1 Q E0) : Ev (tCall sp [] E0 ta) σ H z := fun H1 e Q q =>
  h H1 e _ fun H2 e2 => by
    show sp (vs ++ []) H2 Q E0
    rw [List.append_nil]
    exact hs H2 (e.trans e2) Q fun H3 e3 => q H3 (e2.trans e3)
/-- an argument list whose first item is a new list -/
theorem ev_fnL {sp : Sp} {xs : List V} (h : Ev te σ H x) (hl : EvL tb σ H xs) (hs : ∀ p H1, Ex H H1 → H1 p = some (.lst xs) → ∀ Q : VK, (∀ H2, Ex H1 H2 → Q z H2) → sp [x, .ref p] H1 Q E0) : Ev (tCall sp [] E0 (tCons te (tCons tb tNil))) σ H z := fun H1 e Q q =>
  h H1 e _ fun H2 e2 => hl H2 (e.trans e2) _ fun p H3 _ e3 hp => hs p H3 ((e.trans e2).trans e3) hp Q fun H4 e4 => q H4 ((e2.trans e3).trans e4)
end

/-! ### comprehensions that keep every item -/
section
variable {K : PySem.W.Frag} {σ : L2.St} {H : Hp} {te tl : TE} {vs : List Nat} {J : It} {n : Nat} {G : Hp → Prop} {g : TG}
/-- what the new list holds behind i turns, in a heap that has only grown since H0 -/
def Cm (H0 : Hp) (f : Nat → V) (Dl i : Nat) (H' : Hp) : Prop := H0 Dl = none ∧ Ex H0 H' ∧ H' Dl = some (.lst ((List.range i).map f))
theorem cm_next {H0 H' : Hp} {f : Nat → V} {Dl i : Nat} {σ2 : L2.St} (p : Cm H0 f Dl i H') (hi : i < 100000) (he : Ev te σ2 H0 (f i)) :
    te σ2 H' fun y H4 => ∃ acc, H4 Dl = some (.lst acc) ∧ acc.length < sizeLine ∧ Cm H0 f Dl (i + 1) (upd H4 Dl (.lst (acc ++ [y]))) := by
  obtain ⟨p1, p2, p3⟩ := p
  refine he H' p2 _ fun H4 e4 => ⟨_, e4 Dl _ p3, Evl.sz_lt (by simpa using hi), p1, Ex.mut (p2.trans e4) p1, ?_⟩
  rw [upd_same, List.range_succ, List.map_append]
  rfl
/-- over anything that hands on the items xs and leaves the heap as it is -/
theorem el_walk {xs : List V} {f : Nat → V} (w : Walk J xs.length G (YAt xs)) (hz : xs.length ≤ 100000) {H1 : Hp} (hG : ∀ H', Ex H1 H' → G H') {j : Nat} (hw : ∀ x, wipe ((wipe σ vs).set j (some x)) vs = wipe σ vs)
    (he : ∀ (i : Nat) (x : V), xs[i]? = some x → ∀ H2, Ex H1 H2 → Ev te ((wipe σ vs).set j (some x)) H2 (f i)) {Q : VK} (q : ∀ p H2, H1 p = none → Ex H1 H2 → H2 p = some (.lst ((List.range xs.length).map f)) → Q (.ref p) H2) (Dl : Addr) (hD : H1 Dl = none) :
    ∃ W : Nat → Nat → Hp → Prop, (∃ m, W 0 m (upd H1 Dl (.lst []))) ∧ ∀ i m H, W i m H → (J.stop i H ∧ Q (.ref Dl) H) ∨ (J.go i H ∧ ∃ Nx : Hp → Prop, (∀ H', Nx H' → ∃ m', m' < m ∧ W (i + 1) m' H') ∧ ∀ x H', J.yld i H x H' → gName j x (wipe σ vs) H' fun σ2 H2 =>
      wipe σ2 vs = wipe σ vs ∧ tYes σ2 H2 fun b H3 => if b = true then te σ2 H3 fun y H4 => ∃ acc, H4 Dl = some (.lst acc) ∧ acc.length < sizeLine ∧ Nx (upd H4 Dl (.lst (acc ++ [y]))) else Nx H3) := by
  refine lc_it (g := gName j) (tt := tYes) w (Cm H1 f Dl) ⟨hD, Ex.new hD, upd_same⟩ (fun i H' _ p => hG H' p.2.1) (fun i x H2 H' hi p y => ?_) fun H' p => q Dl H' hD p.2.1 p.2.2
  obtain ⟨rfl, hx⟩ := y
  exact ⟨hw x, cm_next p (by omega) (he i x hx H1 (Ex.refl _))⟩
end
end Ssb

/-! Comprehensions and loops over texts, lists, tuples, dicts (under their lock). -/
namespace Ssb
open PySem PySem.Spec PyProof.Rows L2
open Evl (Ex Ev EvT EvL EvA EvU)
section
variable {K : PySem.W.Frag} {σ : L2.St} {H : Hp} {te tl ta td tb : TE} {vs : List Nat} {j : Nat} {f : Nat → V}
/-- len, list(..), tuple(..), truth: the readings by their names -/
def rLenA (K : PySem.W.Frag) : List V → Hp → VK → Prop := fun xs H Q => ∃ x n, xs = [x] ∧ LenV K x H n ∧ Q (V.int n) H
def rListA (K : PySem.W.Frag) : List V → Hp → VK → Prop := fun xs H Q => ∃ p ys, xs = [V.ref p] ∧ (SqL K H p ys ∨ SqT K H p ys) ∧ ∀ l, H l = none → Q (.ref l) (upd H l (.lst ys))
def rTupA (K : PySem.W.Frag) : List V → Hp → VK → Prop := fun xs H Q => ∃ p ys, xs = [V.ref p] ∧ ((SqL K H p ys ∧ ∀ l, H l = none → Q (.ref l) (upd H l (.tup ys))) ∨ (SqT K H p ys ∧ Q (.ref p) H))
def tTruA (K : PySem.W.Frag) (ta : TE) : TT := fun σ H Q => ta σ H fun x H' => ∃ k, TruV K x H' k ∧ Q k H'
theorem ev_allT {n : Nat} (h : EvL te σ H ((List.range n).map fun _ => V.bl true)) : Ev (tCB (rAll K) (tCons te tNil)) σ H (.bl true) := by
  have e : ((List.range n).map fun _ => V.bl true) = ((List.range n).map fun _ => true).map V.bl := by rw [List.map_map]; rfl
  rw [e] at h
  refine Evl.ev_is (ev_all h) ?_
  congr 1
  rw [List.all_eq_true]
  intro b hb
  obtain ⟨_, _, rfl⟩ := List.mem_map.mp hb
  rfl
theorem el_lcS {s : Str} (h : Ev ta σ H (.str s)) (hz : s.length ≤ 100000) (hw : ∀ x, wipe ((wipe σ vs).set j (some x)) vs = wipe σ vs)
    (he : ∀ (i : Nat) (c : Nat), s.cps[i]? = some c → ∀ H2, Ex H H2 → Ev te ((wipe σ vs).set j (some (.str ⟨#[c]⟩))) H2 (f i)) : EvL (tLc (iStr ta) (gName j) tYes te vs) σ H ((List.range s.length).map f) := fun H1 e Q q =>
  h H1 e _ fun H2 e2 => ⟨s, rfl, fun Dl hD => by
    have w : Walk (Its s) (s.cps.toList.map fun c => V.str ⟨#[c]⟩).length (fun _ => True) (YAt (s.cps.toList.map fun c => V.str ⟨#[c]⟩)) := by
      have l : (s.cps.toList.map fun c => V.str ⟨#[c]⟩).length = s.cps.size := by simp
      rw [l]
      refine walk_str.mono (fun _ z => z) fun i H v H' hi _ y => ?_
      obtain ⟨e, c, hc, rfl⟩ := y
      exact ⟨e, by simp [hc]⟩
    refine el_walk (f := f) w (by rw [List.length_map]; exact hz) (fun _ _ => trivial) hw (fun i x hx H3 e3 => ?_) (fun p H3 hp e3 hl => ?_) Dl hD
    · rw [List.getElem?_map] at hx
      cases hc : s.cps.toList[i]? with
      | none => rw [hc] at hx; cases hx
      | some c =>
        rw [hc] at hx
        cases hx
        exact he i c (by simpa using hc) H3 ((e.trans e2).trans e3)
    · refine q p H3 (Evl.fresh_back e2 hp) (e2.trans e3) ?_
      rw [hl]
      simp [Str.length]⟩
theorem el_lcA {a : Addr} {xs : List V} (h : Ev tl σ H (.ref a)) (hx : SqL K H a xs) (hz : xs.length ≤ 100000) (hw : ∀ x, wipe ((wipe σ vs).set j (some x)) vs = wipe σ vs)
    (he : ∀ (i : Nat) (x : V), xs[i]? = some x → ∀ H2, Ex H H2 → Ev te ((wipe σ vs).set j (some x)) H2 (f i)) : EvL (tLc (iList K tl) (gName j) tYes te vs) σ H ((List.range xs.length).map f) := fun H1 e Q q =>
  h H1 e _ fun H2 e2 => ⟨a, rfl, ⟨xs, Evl.ex_l (e.trans e2) hx⟩, fun Dl hD =>
    el_walk (f := f) walk_list hz (fun H3 e3 => Evl.ex_l ((e.trans e2).trans e3) hx) hw (fun i x h3 H3 e3 => he i x h3 H3 ((e.trans e2).trans e3)) (fun p H3 hp e3 hl => q p H3 (Evl.fresh_back e2 hp) (e2.trans e3) hl) Dl hD⟩
theorem el_lcT {a : Addr} {xs : List V} (h : Ev tl σ H (.ref a)) (hx : SqT K H a xs) (hz : xs.length ≤ 100000) (hw : ∀ x, wipe ((wipe σ vs).set j (some x)) vs = wipe σ vs)
    (he : ∀ (i : Nat) (x : V), xs[i]? = some x → ∀ H2, Ex H H2 → Ev te ((wipe σ vs).set j (some x)) H2 (f i)) : EvL (tLc (iTup K tl) (gName j) tYes te vs) σ H ((List.range xs.length).map f) := fun H1 e Q q =>
  h H1 e _ fun H2 e2 => ⟨a, rfl, ⟨xs, Evl.ex_t (e.trans e2) hx⟩, fun Dl hD =>
    el_walk (f := f) walk_tup hz (fun H3 e3 => Evl.ex_t ((e.trans e2).trans e3) hx) hw (fun i x h3 H3 e3 => he i x h3 H3 ((e.trans e2).trans e3)) (fun p H3 hp e3 hl => q p H3 (Evl.fresh_back e2 hp) (e2.trans e3) hl) Dl hD⟩
/-! ### under a lock -/
theorem unlock {H H' : Hp} {d : Addr} {u u' : HO} (hd : H d = some u) (e : Ex (upd H d u') H') : Ex H (upd H' d u) := fun b o hb => by
  by_cases h : b = d
  · subst h; rw [upd_same]; rw [hd] at hb; exact hb
  · rw [upd_ne h]; exact e b o (by rw [upd_ne h]; exact hb)
theorem lock_keys {d : Addr} {o : Obj} {es : List (Key × V)} : Walk (Itk d o es) (es.map fun e => kV e.1).length (fun H => H d = some (.frz o (.dK es))) (YAt (es.map fun e => kV e.1)) := by
  rw [List.length_map]
  refine walk_keys.mono (fun _ z => z) fun i H x H' _ _ y => ?_
  obtain ⟨e, k, v, hk, rfl⟩ := y
  exact ⟨e, by rw [List.getElem?_map, hk]; rfl⟩
theorem lock_vals {d : Addr} {o : Obj} {es : List (Key × V)} : Walk (Itd d o es) (es.map fun e => e.2).length (fun H => H d = some (.frz o (.dK es))) (YAt (es.map fun e => e.2)) := by
  rw [List.length_map]
  refine walk_values.mono (fun _ z => z) fun i H x H' _ _ y => ?_
  obtain ⟨e, k, hk⟩ := y
  exact ⟨e, by rw [List.getElem?_map, hk]; rfl⟩
theorem el_lcK {d : Addr} {es : List (Key × V)} (h : ∀ H1, Ev td σ H1 (.ref d)) (hd : H d = some (.dK es)) (hz : es.length ≤ 100000) (hw : ∀ x, wipe ((wipe σ vs).set j (some x)) vs = wipe σ vs)
    (he : ∀ (i : Nat) (k : Key) (v : V), es[i]? = some (k, v) → ∀ od H1 H2, Ex H H1 → Ex (upd H1 d (.frz od (.dK es))) H2 → Ev te ((wipe σ vs).set j (some (kV k))) H2 (f i)) : EvL (tLockE (tLc (iKeys td) (gName j) tYes te vs)) σ H ((List.range es.length).map f) := fun H1 e Q q => by
  have hd1 := e d _ hd
  refine ⟨d, .dK es, hd1, trivial, fun od => h _ _ (Ex.refl _) _ fun H2 e2 => ⟨d, od, rfl, .inl ⟨es, e2 d _ upd_same, fun Dl hD => ?_⟩⟩⟩
  refine el_walk (f := f) (Q := fun v H' => H' d = some (.frz od (.dK es)) ∧ Q v (upd H' d (.dK es))) lock_keys (by simpa using hz) (fun H3 e3 => e3 d _ (e2 d _ upd_same)) hw (fun i x hx H3 e3 => ?_) (fun p H3 hp e3 hl => ⟨e3 d _ (e2 d _ upd_same), ?_⟩) Dl hD
  · rw [List.getElem?_map] at hx
    cases hc : es[i]? with
    | none => rw [hc] at hx; cases hx
    | some c =>
      rw [hc] at hx
      cases hx
      exact he i c.1 c.2 hc od H1 H3 e (e2.trans e3)
  · have np : p ≠ d := fun z => by
      have := e2 d _ upd_same
      rw [z, this] at hp; cases hp
    refine q p _ ?_ (unlock hd1 (e2.trans e3)) ?_
    · have := Evl.fresh_back e2 hp
      rw [upd_ne np] at this; exact this
    · rw [upd_ne np, hl, List.length_map]
theorem el_lcV {d : Addr} {es : List (Key × V)} (h : ∀ H1, Ex H H1 → ∀ od, Ev td σ (upd H1 d (.frz od (.dK es))) (.ref d)) (hd : H d = some (.dK es)) (hz : es.length ≤ 100000) (hw : ∀ x, wipe ((wipe σ vs).set j (some x)) vs = wipe σ vs)
    (he : ∀ (i : Nat) (k : Key) (v : V), es[i]? = some (k, v) → ∀ od H1 H2, Ex H H1 → Ex (upd H1 d (.frz od (.dK es))) H2 → Ev te ((wipe σ vs).set j (some v)) H2 (f i)) : EvL (tLockE (tLc (iVals td) (gName j) tYes te vs)) σ H ((List.range es.length).map f) := fun H1 e Q q => by
  have hd1 := e d _ hd
  refine ⟨d, .dK es, hd1, trivial, fun od => h H1 e od _ (Ex.refl _) _ fun H2 e2 => ⟨d, od, es, rfl, e2 d _ upd_same, fun Dl hD => ?_⟩⟩
  refine el_walk (f := f) (Q := fun v H' => H' d = some (.frz od (.dK es)) ∧ Q v (upd H' d (.dK es))) lock_vals (by simpa using hz) (fun H3 e3 => e3 d _ (e2 d _ upd_same)) hw (fun i x hx H3 e3 => ?_) (fun p H3 hp e3 hl => ⟨e3 d _ (e2 d _ upd_same), ?_⟩) Dl hD
  · rw [List.getElem?_map] at hx
    cases hc : es[i]? with
    | none => rw [hc] at hx; cases hx
    | some c =>
      rw [hc] at hx
      cases hx
      exact he i c.1 c.2 hc od H1 H3 e (e2.trans e3)
  · have np : p ≠ d := fun z => by
      have := e2 d _ upd_same
      rw [z, this] at hp; cases hp
    refine q p _ ?_ (unlock hd1 (e2.trans e3)) ?_
    · have := Evl.fresh_back e2 hp
      rw [upd_ne np] at this; exact this
    · rw [upd_ne np, hl, List.length_map]
/-! ### a for under a lock: Pv by the lock's object, the turn, the slots, the heap -/
variable {D : Ends} {ts : TS} {g : TG}
def shut (D : Ends) (d : Addr) (u : HO) (od : Obj) (N : L2.St → Hp → Prop) : Ends :=
  { nx := N, ct := N, bk := fun σ' H' => H' d = some (.frz od u) ∧ D.nx σ' (upd H' d u), rt := fun v H' => H' d = some (.frz od u) ∧ D.rt v (upd H' d u) }
theorem for_lock {d : Addr} {es : List (Key × V)} {J : Obj → It} {ti : TI} {xs : Nat → Option V} (hd : H d = some (.dK es)) (hi : ∀ od R, R (J od) (upd H d (.frz od (.dK es))) → ti σ (upd H d (.frz od (.dK es))) R)
    {Y : Nat → Hp → V → Hp → Prop} (w : ∀ od, Walk (J od) es.length (fun H => H d = some (.frz od (.dK es))) Y) (Pv : Obj → Nat → L2.St → Hp → Prop) (h0 : ∀ od, Pv od 0 σ (upd H d (.frz od (.dK es)))) (hG : ∀ od i σ' H', i ≤ es.length → Pv od i σ' H' → H' d = some (.frz od (.dK es)))
    (hs : ∀ od i x σ' H' H2, i < es.length → Pv od i σ' H' → Y i H' x H2 → g x σ' H2 fun σ2 H3 => ts (shut D d (.dK es) od (Pv od (i + 1))) σ2 H3) (hn : ∀ od σ' H', Pv od es.length σ' H' → D.nx σ' (upd H' d (.dK es))) :
    tLock (tFor ti g ts) D σ H := by
  refine ⟨d, .dK es, hd, trivial, fun od => hi od _ ?_⟩
  exact for_it (w od) (Pv od) (h0 od) (fun i σ' H' hi p => hG od i σ' H' hi p) (fun i x σ' H' H2 hi p y => hs od i x σ' H' H2 hi p y) fun σ' H' p => ⟨hG od _ σ' H' (Nat.le_refl _) p, hn od σ' H' p⟩
end
end Ssb

/-! Comprehensions whose target is unpacked: lists, sets of texts. -/
namespace Ssb
open PySem PySem.Spec PyProof.Rows L2
open Evl (Ex Ev EvT EvL EvA EvU)
/-- the target takes x: the slots are σ2 behind it -/
def Unp (g : TG) (vs : List Nat) (σ σ2 : L2.St) (x : V) (H : Hp) : Prop := wipe σ2 vs = wipe σ vs ∧ ∀ Kont : L2.St → Hp → Prop, Kont σ2 H → g x (wipe σ vs) H Kont
section
variable {K : PySem.W.Frag} {σ : L2.St} {H : Hp} {te tl : TE} {vs : List Nat} {g : TG} {f : Nat → V}
theorem el_lcG {a : Addr} {xs : List V} (h : Ev tl σ H (.ref a)) (hx : SqL K H a xs) (hz : xs.length ≤ 100000) (he : ∀ (i : Nat) (x : V), xs[i]? = some x → ∀ H2, Ex H H2 → ∃ σ2, Unp g vs σ σ2 x H2 ∧ ∀ H3, Ex H H3 → Ev te σ2 H3 (f i)) :
    EvL (tLc (iList K tl) g tYes te vs) σ H ((List.range xs.length).map f) := fun H1 e Q q =>
  h H1 e _ fun H2 e2 => ⟨a, rfl, ⟨xs, Evl.ex_l (e.trans e2) hx⟩, fun Dl hD => by
    refine lc_list (K := K) (a := a) (xs := xs) (Cm H2 f Dl) ⟨hD, Ex.new hD, upd_same⟩ (fun i H' _ p => Evl.ex_l ((e.trans e2).trans p.2.1) hx) (fun i x H' hi p => ?_) fun H' p => q Dl H' (Evl.fresh_back e2 hD) (e2.trans p.2.1) p.2.2
    obtain ⟨σ2, ⟨hw, hk⟩, ev⟩ := he i x hi H' ((e.trans e2).trans p.2.1)
    exact hk _ ⟨hw, cm_next p (by have := (List.getElem?_eq_some_iff.mp hi).1; omega) (ev H2 (e.trans e2))⟩⟩
theorem yes_go {F G : Hp → Prop} (h : F H) : tYes σ H (fun b H3 => if b = true then F H3 else G H3) := by
  show (if true = true then F H else G H)
  rw [if_pos rfl]
  exact h
theorem ev_fld {a C dx : Addr} {fs : List (Str × V)} {v : V} {fn : Str} (h : Ev te σ H (.ref a)) (ho : H a = some (.ins C dx fs)) (c : Cls K C) (n : NoAttr K C fn) (l : fs.lookup fn = some v) : Ev (tFld K te fn) σ H v := fun H1 e Q q =>
  h H1 e _ fun H2 e2 => ⟨a, C, dx, fs, v, rfl, (e.trans e2) _ _ ho, c, n, l, q H2 e2⟩
theorem ev_sum {n : Nat} {c : Nat → Int} (h : EvL te σ H ((List.range n).map fun i => V.int (c i))) : Ev (tCB (rSum K) (tCons te tNil)) σ H (.int ((List.range n).map c).sum) := fun H1 e Q q =>
  h H1 e _ fun p H2 _ e2 hp => ⟨p, (List.range n).map c, rfl, by rw [List.map_map]; exact Evl.sq_of hp, q H2 e2⟩
/-- a pure answer handed on as an argument, a new tuple behind it -/
theorem rv_notN {x : V} : Evl.RV (fun x y H Q => y = .non ∧ Q (.bl (!decide (x = .non))) H) x .non H (.bl (!decide (x = .non))) := fun H1 _ _ q => ⟨rfl, q H1 (Ex.refl _)⟩
theorem rv_isN {x : V} : Evl.RV (fun x y H Q => y = .non ∧ Q (.bl (decide (x = .non))) H) x .non H (.bl (decide (x = .non))) := fun H1 _ _ q => ⟨rfl, q H1 (Ex.refl _)⟩
theorem met_snoc : ∀ (l acc : List Str) (x : Str), met acc (l ++ [x]) = put1 (met acc l) x
  | [], acc, x => rfl
  | y :: l, acc, x => met_snoc l _ x
/-- {name for .. in xs} -/
theorem ex_scG {P : Program} {w : World} {a : Addr} {xs : List V} {nms : List Str} (h : Ev tl σ H (.ref a)) (hx : SqL K H a xs) (hn : nms.length = xs.length) (few : xs.length ≤ 1000)
    (he : ∀ (i : Nat) (x : V), xs[i]? = some x → ∃ s, nms[i]? = some s ∧ ∀ H2, Ex H H2 → ∃ σ2, Unp g vs σ σ2 x H2 ∧ ∀ H3, Ex H H3 → Ev te σ2 H3 (.str s)) :
    Ev (tCB (rLenTxs P w) (tCons (tTxs P w (iList K tl) g tYes te vs) tNil)) σ H (.int ((met [] nms).length : Int)) := fun H1 e Q q =>
  h H1 e _ fun H2 e2 => ⟨a, rfl, ⟨xs, Evl.ex_l (e.trans e2) hx⟩, fun Dl hD => by
    have ml := met_len nms []
    simp only [List.length_nil] at ml
    refine ⟨fun i m H' => m = xs.length - i ∧ i ≤ xs.length ∧ Ex H2 H' ∧ H' Dl = some (Txs P w Dl (met [] (nms.take i))), ⟨xs.length, by simp, Nat.zero_le _, Ex.new hD, upd_same⟩, ?_⟩
    rintro i m H' ⟨rfl, hi, e3, hd⟩
    have sq := Evl.ex_l ((e.trans e2).trans e3) hx
    by_cases hlt : i < xs.length
    · refine .inr ⟨⟨xs, xs[i], sq, by simp [hlt]⟩, fun H' => Ex H2 H' ∧ H' Dl = some (Txs P w Dl (met [] (nms.take (i + 1)))), fun H' p' => ⟨xs.length - (i + 1), by omega, rfl, hlt, p'⟩, fun x H'' y => ?_⟩
      obtain ⟨rfl, y⟩ := y
      obtain ⟨s, hs, he2⟩ := he i x (y xs sq)
      obtain ⟨σ2, ⟨hw, hk⟩, ev⟩ := he2 _ ((e.trans e2).trans e3)
      refine hk _ ⟨hw, ev H2 (e.trans e2) _ e3 _ fun H4 e4 => ⟨s, met [] (nms.take i), rfl, e4 _ _ hd, ?_, Ex.mut (e3.trans e4) hD, ?_⟩⟩
      · have := met_len (nms.take i) []
        simp only [List.length_nil, List.length_take] at this
        exact Nat.lt_of_le_of_lt (show (met [] (nms.take i)).length + 1 ≤ 1001 by omega) (by decide)
      · rw [upd_same, List.take_add_one, hs]
        show _ = some (Txs P w Dl (met [] (nms.take i ++ [s])))
        rw [met_snoc]
    · have ei : i = xs.length := by omega
      subst ei
      refine .inl ⟨⟨xs, sq, Nat.le_refl _⟩, Dl, met [] nms, rfl, ?_, by omega, q H' (e2.trans e3)⟩
      rw [hd, ← hn, List.take_length]⟩
end
end Ssb

/-! Own errors over Exception whose __init__ keeps one attribute: made, raised. -/
namespace Ssb
open PySem PySem.Spec L2 PyProof.Rows

abbrev exBm : List Value := [.type "Exception", .type "BaseException", .type "object"]
/-- what the written part tells of such a class -/
structure OexE (K : PySem.W.Frag) (C : Addr) : Prop where
  over : PySem.W.excOver K C exBm = true
  made : PySem.W.excInitIn K C exBm "Exception.__new__" = true
  hd : PySem.W.hasDictIn K C = true
  sa : PySem.W.findIn K (.ref C) "__setattr__" = some (some (.builtin "object.__setattr__"))
  exC : PySem.W.subIn K (.ref C) (.type "BaseException") = some true
  tyC : PySem.W.typeIn K (.ref C) = some (.type "type")
  kC : PySem.W.keepIn K (.ref C) = true
section
variable {X : Cx} {pins : List (Addr × Obj)} {σ : L2.St} {H : Hp} {s : Shared} {a C : Addr} {f : Str} {y : V} {u : Value} {Q : Unit → Shared → Prop} {E : Value → Shared → Prop} {A : Around}
/-- the invariant behind the first attribute -/
theorem ost_inv {hp h' : Heap} {g : Array GenState} {d : Drawn} {t t' : Nat} {os : OsState} {dx t1 : Addr} (I : Inv X pins σ H ⟨hp, g, d, t, os⟩) (e : H a = some (exo a C none)) (ry : RelV y u) (dn : hp.objs.size ≤ dx) (dne : dx ≠ a) (k : ∀ b o, b ≠ a → hp.get? b = some o → h'.get? b = some o)
    (hx : h'.get? a = some ({ cls := .ref C, dict := some dx, data := .fields #[.ref t1, .none, .none, .none, .bool false, .none] } : Obj)) (hn : h'.Ns1 dx (fun z => if z = f then some u else none)) :
    H dx = none ∧ Inv X pins σ (upd (upd H dx (exd dx [(f, y)])) a (exo a C (some dx))) ⟨h', g, d, t', os⟩ := by
  have hnd : H dx = none := I.hok.fresh dn
  have old : ∀ b o, hp.get? b = some o → b ≠ dx := fun b o q => Nat.ne_of_lt (Nat.lt_of_lt_of_le (Heap.lt_size q) dn)
  have nota : ∀ b, H b = none → b ≠ a := fun b n z => by rw [z, e] at n; cases n
  refine ⟨hnd, I.un (t' := t') ⟨fun b o q n _ _ => k b o (nota b n) q, fun b o q n _ _ => ⟨o.slots, k b o (nota b n) q⟩, fun b o q n _ => (by rw [upd_ne (nota b n), upd_ne (old b o q)]; exact n), fun b o q _ => ?_,
    fun b xs q => (by rw [upd_ne (at_ne e q exo_tup), upd_ne (ne_of_none q hnd)]; exact q), fun b o v q => (by rw [upd_ne (at_ne e q exo_frz), upd_ne (ne_of_none q hnd)]; exact q), fun b ps q => ⟨#[], (by rw [upd_ne (at_ne e q exo_tbl), upd_ne (ne_of_none q hnd), q]; simp)⟩⟩ fun b o q => ?_⟩
  · by_cases hb : b = a
    · exact ⟨_, hb ▸ hx⟩
    · exact ⟨o, k b o hb q⟩
  · by_cases hb : b = a
    · subst hb; rw [upd_same] at q; cases q; exact exo_ok hx
    rw [upd_ne hb] at q
    by_cases hd : b = dx
    · subst hd; rw [upd_same] at q; cases q; exact exd_ok hn (relO_put (fs := []) ry fun g => True.intro)
    rw [upd_ne hd] at q
    refine (I.hok b o q).stay (fun c v hc z => k c v (hc.elim (fun hc => by rw [hc]; exact hb) fun hc => at_ne e hc exo_own) z) (fun c hc => ?_) (fun c xs hc => ?_)
    · rw [upd_ne (at_ne e hc exo_own), upd_ne (ne_of_none hc hnd)]; exact hc
    · rw [upd_ne (at_ne e hc exo_tup), upd_ne (ne_of_none hc hnd)]; exact hc
/-- self.f = y, the first attribute -/
theorem ost_newE (T : OexE X.K C) (I : Inv X pins σ H s) (e : H a = some (exo a C none)) (hno : PySem.W.findIn X.K (.ref C) f = some none) (ry : RelV y u)
    (h : ∀ dx s', H dx = none → dx ≠ a → Inv X pins σ (upd (upd H dx (exd dx [(f, y)])) a (exo a C (some dx))) s' → Q () s') : wpAny (model X.prog X.w) A (setAttr (.ref a) f u) Q E s := by
  obtain ⟨t1, ho⟩ := exo_at I.hok e
  obtain ⟨hp, g, d, t, os⟩ := s
  obtain ⟨cd, hc, hd'⟩ := PySem.W.any_some T.hd
  have hxs : a ≠ hp.objs.size := Nat.ne_of_lt (Heap.lt_size ho)
  refine PySem.W.set_plain I.kIn (od := none) ⟨ho, rfl, rfl, trivial⟩ T.sa (PySem.W.osa_openX (od := none) PySem.F.store_Exception I.kIn ⟨ho, rfl, rfl, trivial⟩ T.over (r := none) (by unfold PySem.W.takerIn; rw [hno]; rfl) fun b => ?_)
  refine wpAny_bind (wpAny_pure (wpAny_bind (PySem.W.instanceDict_exc (t := t1) (c2 := .none) ho (PySem.W.looks_clsIn I.kIn hc) hd' ?_)))
  refine PySem.HandSPX.store_in_new ?_ fun h' tk' hn' hs => ?_
  · exact ⟨_, #[], _, (Heap.get?_update_ne _ _ _ _ hxs.symm).trans (Heap.get?_push_at rfl rfl), rfl, fun e he => absurd he (by simp), fun _ => rfl⟩
  · have k : ∀ b o, b ≠ a → hp.get? b = some o → h'.get? b = some o := fun b o nb ho' => (hs.2 b (Nat.ne_of_lt (Heap.lt_size ho'))).trans ((Heap.get?_update_ne _ _ _ _ nb).trans (Heap.get?_push_of_some _ ho'))
    have hx : h'.get? a = some ({ cls := .ref C, dict := some hp.objs.size, data := .fields #[.ref t1, .none, .none, .none, .bool false, .none] } : Obj) := (hs.2 a hxs).trans (Heap.get?_update_self _ (Heap.get?_push_of_some _ ho) rfl)
    obtain ⟨n, J⟩ := ost_inv (t' := tk') I e ry (Nat.le_refl _) hxs.symm k hx hn'
    exact h _ _ n hxs.symm J
end
/-! ### readings and rules -/
/-- self.f = e within such an __init__ -/
def tOsE (K : PySem.W.Frag) (f : Str) (to te : TE) : TS := fun D σ H => te σ H fun y H1 => to σ H1 fun x H2 => ∃ a C : Addr, x = .ref a ∧ OexE K C ∧ PySem.W.findIn K (.ref C) f = some none ∧
  H2 a = some (exo a C none) ∧ ∀ dx, H2 dx = none → dx ≠ a → D.nx σ (upd (upd H2 dx (exd dx [(f, y)])) a (exo a C (some dx)))
section
variable {X : Cx} {o e : Expr} {es : List Expr} {to te : TE} {ta : TA} {f : Str} {p p' pos : Pos}
theorem ps_osE (ho : PE X o to) (he : PE X e te) (hs : swapsWith e (some (.Attribute o f p')) pos.line X.env = pure false := by rfl) : PS X (.Assign [.Attribute o f p'] e pos) (tOsE X.K f to te) :=
  ⟨fun pins s σ H D I h => plainObj_wpAny_Assign_Attribute (thn (he.run pins s σ H _ I h) fun v s1 ⟨y, H1, I1, r1, q1⟩ => thn (ho.run pins s1 σ H1 _ I1 q1) fun u s2 ⟨x, H2, I2, r2, a, C, ex, T, hno, ea, q⟩ => by
    subst ex
    cases (show u = Value.ref a from r2)
    exact ost_newE T I2 ea hno r1 fun dx s' n ne J => ⟨σ, _, J, q dx n ne⟩) hs⟩
/-- C(e, ..) as what is raised; its __init__ keeps sp -/
theorem pmk_oexE {x : Str} {C fI : Addr} {k j : Nat} {fd : FuncData} {ps : List Str} {sp : Sp} (T : OexE X.K C) (G : Mt X.prog X.w X.K X.mg X.base C "__init__" k ps sp fI fd) (tI : PySem.W.typeIn X.K (.ref fI) = some (.type "function")) (hr : Room j X.A) (hm : X.mg x = some (.ref C)) (ha : PA X (e :: es) ta) (hj : k + 1 ≤ j := by first | decide | omega)
    (hg : Gl X x := by rfl) (hdb : (x == ("__debug__" : Str)) = false := by decide) (he : starEach (e :: es) X.env = (false, eval e X.env) :: starEach es X.env := by rfl) (hpl : (backTo pos (starEach es X.env)).any (·.1) = false := by rfl) : PMk X (.Call (.Name x p) (e :: es) [] pos) (tMkO C sp [] ta) := by
  intro pins s σ H Q I h
  refine wpAny_Call_Name_kw (ld_glob I hg hm ?_ hdb)
  refine PySem.W.callWith_K (h₀ := X.base) I.ok.mod.kin T.kC (thn (ha.run pos pins s σ H _ I h) fun us s1 ⟨vs, H1, I1, r1, hz, q1⟩ => ⟨I1.kIn, ?_⟩) he hpl
  show wpAny _ _ (call (.ref C) us) _ _ _
  obtain ⟨hp, g, dr, tk, os⟩ := s1
  obtain ⟨nm, N, qn, bs, bm, hdct, sn, sub, ab, col, dd, k0, k1, k2, k3, k5, hC, hT⟩ := PySem.W.excInit_of I1.kIn T.made
  have hn : H1 (hp.objs.size + 1) = none := I1.hok.fresh (Nat.le_succ _)
  have hq := q1 (hp.objs.size + 1) hn
  rw [List.append_nil] at hq
  have kk : ∀ b o, hp.get? b = some o → ((hp.push (PySem.W.kdv_tup us)).push (PySem.HandSPX.excO C hp.objs.size)).get? b = some o := fun b o z => Heap.get?_push_of_some _ (Heap.get?_push_of_some _ z)
  have hget : ((hp.push (PySem.W.kdv_tup us)).push (PySem.HandSPX.excO C hp.objs.size)).get? (hp.objs.size + 1) = some (PySem.HandSPX.excO C hp.objs.size) := by heap_get
  have I2 := I1.laid (t' := tk) (o := exo (hp.objs.size + 1) C none) kk (Nat.le_succ _) (exo_ok hget)
  have r2 : Vals (V.ref (hp.objs.size + 1) :: vs) (Value.ref (hp.objs.size + 1) :: us) := .cons rfl r1
  have hl : (Value.ref (hp.objs.size + 1) :: us ++ []).length = ps.length := by rw [List.append_nil, ← r2.length, G.ok.len _ _ _ _ hq]
  have hb := G.bd ⟨(hp.push (PySem.W.kdv_tup us)).push (PySem.HandSPX.excO C hp.objs.size), g, dr, tk, os⟩ (Value.ref (hp.objs.size + 1) :: us) I2.kIn hl
  rw [List.append_nil] at hb
  have hus : us.length ≤ sizeLine := by rw [← Paired.length r1, sizeLine_eq]; omega
  refine wpAny_call (PySem.HandSPX.call_own PySem.F.excBase_Exception hT hC (PySem.W.looks_findIn I1.kIn G.mt.at_) (fun self => PySem.W.bind_fn I1.kIn self tI) hus
    (codeAny_mono (G.ok.run _ X.stack _ _ ⟨Value.ref (hp.objs.size + 1) :: us, []⟩ (Value.ref (hp.objs.size + 1) :: us) _ _ E0 ((hr.mono hj).make C us []) (I2.env0.make C us []) hb r2 hq) fun r s' hq' => ?_))
  cases r with
  | error er => exact hq'.elim
  | ok fl =>
    cases fl with
    | ret u =>
      obtain ⟨v, H2, os2, bare2, un2, hok2, rv, ev, d, fs, ea, ed, hd1, q2⟩ := hq'
      subst ev
      obtain ⟨h2, g2, d2, t2, os'⟩ := s'
      exact ⟨rv, mk_end (raises_own T.exC T.tyC) I1 (Nat.le_succ _) kk un2 hok2 os2 bare2 ea ed hd1 q2⟩
    | next => exact hq'.elim
    | brk => exact hq'.elim
    | cont => exact hq'.elim
end
end Ssb

/-! try .. except C as e, where the caught error stays known behind the suite. -/
namespace Ssb
open PySem PySem.Spec L2 PyProof.Rows
/-- at a: an error that was caught, of this class, with this dict -/
def exk (a : Addr) (cls : Value) (d : Option Addr) : HO := .ext fun h => ∃ oe vs, h.get? a = some oe ∧ Zc cls d oe ∧ oe.data = .fields vs
theorem exk_ok {P : Program} {w : World} {H : Hp} {h : Heap} {a : Addr} {cls : Value} {d : Option Addr} {oe : Obj} {vs : Array Value} (e : h.get? a = some oe) (z : Zc cls d oe) (f : oe.data = .fields vs) : ObjOk P w H h a (exk a cls d) :=
  ⟨⟨oe, vs, e, z, f⟩, ⟨oe, e⟩, fun _ _ ⟨o2, v2, e2, z2, f2⟩ k => ⟨o2, v2, k _ e2, z2, f2⟩⟩
theorem exk_at {P : Program} {w : World} {H : Hp} {h : Heap} {a : Addr} {cls : Value} {d : Option Addr} (hok : HOk P w H h) (e : H a = some (exk a cls d)) : ∃ oe vs, h.get? a = some oe ∧ Zc cls d oe ∧ oe.data = .fields vs := by
  have x : ObjOk P w H h a (.ext fun h => ∃ oe vs, h.get? a = some oe ∧ Zc cls d oe ∧ oe.data = .fields vs) := hok a _ e
  exact x.1
section
variable {X : Cx} {pins : List (Addr × Obj)} {σ : L2.St} {H : Hp} {s : Shared}
theorem adopt {a : Addr} {oe : Obj} {vs : Array Value} {cls : Value} {d : Option Addr} (I : Inv X ((a, oe) :: pins) σ H s) (hd : oe.data = .fields vs) (hz : Zc cls d oe) (n0 : ∀ b o, X.s_0.heap.get? b = some o → b ∉ X.ex → b ≠ a) (np : ∀ p ∈ X.pn ++ pins, p.1 ≠ a) : Inv X pins σ (upd H a (exk a cls d)) s := by
  obtain ⟨ge, na, nL, nF, nC⟩ := I.pin (a, oe) (List.mem_append_right _ List.mem_cons_self)
  have keep : ∀ {b : Addr} {o : HO}, H b = some o → (upd H a (exk a cls d)) b = some o := fun {b o} hb => by
    rw [upd_ne (fun z => by rw [z, na] at hb; cases hb)]; exact hb
  have B := I.base
  refine ⟨I.ok, I.os, I.bare, ⟨B.keep, B.slot, fun b o q n x => (by rw [upd_ne (n0 b o q x)]; exact B.free b o q n x), B.there, fun b xs q => keep (B.tups b xs q), fun b o u q => keep (B.frzs b o u q), fun b ps q => (B.tbls b ps q).imp fun _ h => keep h⟩, I.loc, I.cell, ?_, fun x c hc => ?_, fun p hp => ?_, fun b o q => ?_, I.len⟩
  · rw [upd_ne (Ne.symm nL)]; exact I.free
  · obtain ⟨v, oc, e1, e2⟩ := I.cell x c hc
    have : c ≠ a := fun z => by
      rw [z] at e1
      have e3 := Option.some.inj (ge.symm.trans e1)
      have e3 : oe = oc := e3
      rw [← e3] at e2
      exact nC _ (by simpa using e2)
    rw [upd_ne this]; exact I.freeC x c hc
  · obtain ⟨e1, e2, e3⟩ := I.pin p (by
      rcases List.mem_append.mp hp with h | h
      · exact List.mem_append_left _ h
      · exact List.mem_append_right _ (List.mem_cons_of_mem _ h))
    exact ⟨e1, by rw [upd_ne (np p hp)]; exact e2, e3⟩
  · by_cases hb : b = a
    · subst hb; rw [upd_same] at q; cases q; exact exk_ok ge hz hd
    · rw [upd_ne hb] at q
      exact (I.hok b o q).stay (fun _ _ _ z => z) (fun _ hc => keep hc) fun _ _ hc => keep hc
end
/-- what the clause asks of an error of the body: as wAs, but behind the suite a is known -/
def wKeep (K : PySem.W.Frag) (c : Value) (i : Nat) (ts : Addr → Value → Option Addr → TS) (Wout : WX) (D : Ends) : WX := fun cls d σ H => ∃ b, PySem.W.exmOne K cls c = some b ∧
  (b = true → ∀ a, H a = none → ts a cls d { nx := fun σ' H' => D.nx (σ'.set i none) (upd H' a (exk a cls d)), rt := fun v H' => D.rt v (upd H' a (exk a cls d)), bk := fun σ' H' => D.bk (σ'.set i none) (upd H' a (exk a cls d)), ct := fun σ' H' => D.ct (σ'.set i none) (upd H' a (exk a cls d)) } (σ.set i (some (.ref a))) H) ∧ (b = false → Wout cls d σ H)
section
variable {X : Cx} {x n : Str} {c : Value} {i : Nat} {body suite : List Stmt} {b₀ : Stmt} {np pos pos' : Pos} {tb : WX → TS} {ts : Addr → Value → Option Addr → TS} {Wout : WX}
theorem ps_try_keep (hs : X.stack = X.env :: X.outer) (hf : X.env.frame = some X.env.locals) (hN : X.N.Nodup) (hi : X.N[i]? = some n) (hln : X.env.kindOf n = some .local) (hc : Names X x c) (tk : Takes X Wout)
    (hb : ∀ (W : WX) (pn : List (Addr × Obj)) (xe : Value → Shared → Prop), Takes (X.tr pn xe) W → PassesOwn (model X.prog X.w) X.A X.env xe → PSs (X.tr pn xe) body (tb W))
    (hsu : ∀ (a : Addr) (oe : Obj) (cls : Value) (d : Option Addr) (pn : List (Addr × Obj)), Zc cls d oe → (∃ vs, oe.data = .fields vs) → PSs (X.suite a ((a, oe) :: pn)) (b₀ :: suite) (ts a cls d)) :
    PS X (.Try body [.ExceptHandler (some (.Name x np)) (some n) (b₀ :: suite) pos'] [] [] pos) (fun D σ H => tb (wKeep X.K c i ts Wout D) D σ H) := by
  refine ⟨fun pins s σ H D I h => ?_⟩
  have ok := I.ok
  have fr0 : X.A.frames = some (X.env :: X.outer) := by rw [ok.frames, hs]
  refine wpAny_Try_except (wpAny_mono ((hb (wKeep X.K c i ts Wout D) (X.pn ++ pins) (fun e s₁ => wpAny (model X.prog X.w) X.A (noteFrame e X.env) (fun _ s₂ => wpAny (model X.prog X.w) X.A (setFlight e none) (fun _ s₃ => wpAny (model X.prog X.w) X.A (handleBy e X.env [.ExceptHandler (some (.Name x np)) (some n) (b₀ :: suite) pos']) (SP X pins D) X.xe s₃) X.xe s₂) X.xe s₁) (fun u s' xx => ?_) PassesOwn.looking).run [] s σ H D (I.toTry _) h) (fun f s1 hsp => ?_) (fun e s1 he => he))
  · obtain ⟨a, B, sI, pins', σ1, HH, cls, d, rfl, J0, nb, up, sky, na, os, ag, b, hb1, hyes, hno⟩ := xx
    have J : Inv X pins σ1 HH sI := J0.ofTry ok
    rw [show (X.tr (X.pn ++ pins) _).stack = X.env :: X.outer from hs] at sky
    refine Sky.land Zc.steady fr0 hf sky fun h3 fl3 up3 => ?_
    have J3 : Inv X pins σ1 HH { s' with heap := h3 } := J.landed nb fl3.1 (up.trans up3) os ag
    obtain ⟨oe3, vs3, he3, hz3, hd3⟩ := fl3.there
    have nfr : a ∉ frs (X.env :: X.outer) := fun hm => by
      obtain ⟨_, o', e', hnf⟩ := fl3.2.2.1.mem hm
      rw [he3] at e'; cases e'; exact hnf _ hd3
    have nL : a ≠ X.env.locals := fun z => nfr (List.mem_filterMap.mpr ⟨X.env, List.mem_cons_self, (by rw [hf, z])⟩)
    have nF : a ∉ X.fs := fun hm => (List.mem_filterMap.mp hm).elim fun e he => nfr (List.mem_filterMap.mpr ⟨e, List.mem_cons_of_mem _ he.1, he.2⟩)
    -- the error is younger than all that stood
    have young : sI.heap.get? a = none := by
      cases hg : sI.heap.get? a with
      | none => rfl
      | some o =>
        have := nb a o hg (by rw [show (X.tr (X.pn ++ pins) _).stack = X.env :: X.outer from hs]; exact nfr)
        rw [fl3.2.1] at this; cases this
    have n0 : ∀ b o, X.s_0.heap.get? b = some o → b ∉ X.ex → b ≠ a := fun b o q hx z => by
      obtain ⟨o', h'⟩ := J.base.there b o q hx
      rw [z, young] at h'; cases h'
    have np0 : ∀ p ∈ X.pn ++ pins, p.1 ≠ a := fun p hp z => by
      have := (J.pin p hp).1
      rw [z, young] at this; cases this
    have S3 := J3.suite he3 hd3 na nL nF
    have LM := PySem.W.exm_one (M := model X.prog X.w) J3.kIn (show PySem.W.Looks (model X.prog X.w) h3 (typeOf (.ref a)) cls from fun A Q E s k q => wpAny_typeOf_ref (k _ _ he3) (by rw [hz3.1]; exact q)) hb1
    refine wpAny_handleBy_cons (codeAny_handlers_test ?_) (by intro q; cases q)
    have test : ∀ {Q : Value → Shared → Prop} {E : Value → Shared → Prop}, Q c { s' with heap := h3 } → wpAny (model X.prog X.w) (X.A.mark (some (.ref a))) (eval (.Name x np) X.env) Q E { s' with heap := h3 } := fun {Q E} q => by
      obtain ⟨hg, hdb, hm | ⟨hm, hv, hnn⟩⟩ := hc
      · exact ld_glob S3 hg hm q hdb
      · exact ld_blt S3 hg hm hv q hnn hdb
    refine test (LM.here ?_)
    cases b with
    | true =>
      refine codeAny_handlers_suite_as (HandSPX.lands_againZ fl3 fun h4 fl4 up4 => ?_)
      have J4 : Inv X pins σ1 HH { s' with heap := h4 } := J.landed nb fl4.1 ((up.trans up3).trans up4) os ag
      obtain ⟨oe4, vs4, he4, hz4, hd4⟩ := fl4.there
      refine store_ok (X := X.suite a ((a, oe4) :: (X.pn ++ pins))) (v := .ref a) (J4.suite he4 hd4 na nL nF) hN hi (.inl hln) rfl (fun s5 S5 => ?_) (.inr hln)
      refine wpAny_mono ((hsu a oe4 cls d (X.pn ++ pins) hz4 ⟨_, hd4⟩).run [] s5 _ HH _ S5 (hyes rfl a na)) (fun f s6 hsp => ?_) (fun _ _ z => False.elim z)
      have fin : ∀ {σ6 : L2.St} {H6 : Hp} {Q : Shared → Prop}, Inv (X.suite a ((a, oe4) :: (X.pn ++ pins))) [] σ6 H6 s6 → (∀ s7, Inv X pins (σ6.set i none) (upd H6 a (exk a cls d)) s7 → Q s7) →
          wpAny (model X.prog X.w) X.A (do bindName X.env n .none; unbindBehindTheSuite X.env n pos') (fun _ s7 => Q s7) X.xe s6 := fun {σ6 H6 Q} S6 hq => by
        have I6 : Inv X ((a, oe4) :: pins) σ6 H6 s6 := ⟨ok, S6.os, S6.bare, S6.base, S6.loc, S6.cell, S6.free, S6.freeC, fun p hp => S6.pin p (by
          rw [List.append_nil]
          rcases List.mem_append.mp hp with h | h
          · exact List.mem_cons_of_mem _ (List.mem_append_left _ h)
          · rcases List.mem_cons.mp h with h | h
            · rw [h]; exact List.mem_cons_self
            · exact List.mem_cons_of_mem _ (List.mem_append_right _ h)), S6.hok, S6.len⟩
        exact gone_ok I6 hN hi hln fun s7 J7 => hq s7 (adopt J7 hd4 hz4 n0 np0)
      cases f with
      | ret u => obtain ⟨v6, σ6, H6, S6, r6, q6⟩ := hsp; exact fin S6 fun s7 J7 => ⟨_, _, _, J7, r6, q6⟩
      | next => obtain ⟨σ6, H6, S6, q6⟩ := hsp; exact fin S6 fun s7 J7 => ⟨_, _, J7, q6⟩
      | brk => obtain ⟨σ6, H6, S6, q6⟩ := hsp; exact fin S6 fun s7 J7 => ⟨_, _, J7, q6⟩
      | cont => obtain ⟨σ6, H6, S6, q6⟩ := hsp; exact fin S6 fun s7 J7 => ⟨_, _, J7, q6⟩
    | false =>
      show wpAny _ X.A (handleBy (.ref a) X.env []) _ _ _
      obtain ⟨k1, k2, k3, oe, vs, T, oT, ts', he, hz, hd, h1, hr⟩ := id fl3
      refine wpAny_handleBy_nil ?_
      unfold PySem.passOn
      refine wpAny_bind (wpAny_field he hd h1 ?_)
      rw [if_neg (show ¬ ((Value.ref T == Value.none) = true) by simp)]
      have go : wpAny (model X.prog X.w) X.A (setFlight (.ref a) X.env.frame) (fun _ s4 => wpAny (model X.prog X.w) X.A (throw (.ref a) : Sem Flow) (SP X pins D) X.xe s4) X.xe { s' with heap := h3 } := by
        rw [hf]
        exact HandSPX.setFlight_upZ fl3 fun h4 hh4 up4 => wpAny_throw (tk _ _ ⟨a, B, sI, pins, σ1, HH, cls, d, rfl, J, nb, (up.trans up3).trans up4, .inr (.inr (by rw [hs]; exact hh4)), na, os, ag, hno rfl⟩)
      first
        | exact wpAny_bind go
        | exact wpAny_bind (wpAny_pure (wpAny_bind go))
  · cases f with
    | ret u => obtain ⟨v, σ1, HH, J, r, q⟩ := hsp; exact ⟨v, σ1, HH, J.ofTry ok, r, q⟩
    | next => obtain ⟨σ1, HH, J, q⟩ := hsp; exact wpAny_execs_nil ⟨σ1, HH, J.ofTry ok, q⟩
    | brk => obtain ⟨σ1, HH, J, q⟩ := hsp; exact ⟨σ1, HH, J.ofTry ok, q⟩
    | cont => obtain ⟨σ1, HH, J, q⟩ := hsp; exact ⟨σ1, HH, J.ofTry ok, q⟩
end
end Ssb

/-! A caught error that is kept: its attribute, isinstance of it. -/
namespace Ssb
open PySem PySem.Spec L2 PyProof.Rows
/-- what the class says, so that isinstance asks its instances rightly -/
structure ExK (K : PySem.W.Frag) (C : Addr) : Prop where
  xf : XfC K C
  cl : (PySem.W.clsIn K C).isSome = true
  ha : PySem.W.findIn K (.ref C) "__class__" = some (some (.builtin "object.__class__"))
  hn : PySem.W.specialIn K (.builtin "object.__class__") "__get__" = some (some (.builtin "getset_descriptor.__get__"))
  ht : PySem.W.takesIn K (.builtin "object.__class__") = some true
  hm : PySem.W.mroIn K C (.type "object") = some true
theorem exk_cl {K : PySem.W.Frag} {C : Addr} (h : PySem.W.hasDictIn K C = true) : (PySem.W.clsIn K C).isSome = true := by
  obtain ⟨cd, hc, _⟩ := PySem.W.any_some h
  rw [hc]; rfl
section
variable {X : Cx} {pins : List (Addr × Obj)} {σ : L2.St} {H : Hp} {s : Shared}
/-- the kept error as an instance of its class -/
theorem kept_inst {a C d : Addr} {fs : List (Str × V)} (I : Inv X pins σ H s) (e : H a = some (exk a (.ref C) (some d))) (ed : H d = some (.xd fs)) : ∃ (oe od : Obj) (mA : Str → Option Value), PySem.W.InstAt s.heap a oe C (some od) ∧ (∀ f, PySem.W.lookIn f od = some (mA f)) ∧ ∀ f, RelO (fs.lookup f) (mA f) := by
  obtain ⟨oe, vs, he, hz, hf⟩ := exk_at I.hok e
  obtain ⟨mA, hns, hr⟩ := (show ObjOk X.prog X.w H s.heap d (.xd fs) from I.hok d _ ed)
  obtain ⟨od, ho, hl⟩ := lookIn_ns hns
  exact ⟨oe, od, mA, ⟨he, hz.1, (by unfold PySem.W.notCls; rw [hf] <;> rfl), (by rw [hz.2]; exact ho)⟩, hl, hr⟩
/-- e.f, e a kept error -/
def tFldE (C : Addr) (f : Str) (te : TE) : TE := fun σ H Q => te σ H fun x H1 => ∃ (a d : Addr) (fs : List (Str × V)) (v : V), x = .ref a ∧ H1 a = some (exk a (.ref C) (some d)) ∧ H1 d = some (.xd fs) ∧ fs.lookup f = some v ∧ Q v H1
theorem pe_fldE {C : Addr} {e : Expr} {te : TE} {pos : Pos} {n : Str} (T : XfC X.K C) (hno : PySem.W.findIn X.K (.ref C) n = some none) (he : PE X e te) (hb : attributeBase e n X.env (eval e X.env) = eval e X.env := by rfl) : PE X (.Attribute e n pos) (tFldE C n te) := by
  refine ⟨fun pins s σ H Q I h => attr_of hb (thn (he.run pins s σ H _ I h) fun u s1 ⟨x, H1, I1, rx, a, d, fs, v, ex, ea, ed, l, q⟩ => ?_)⟩
  subst ex
  cases (show u = Value.ref a from rx)
  obtain ⟨oe, od, mA, J, hl, hr⟩ := kept_inst I1 ea ed
  obtain ⟨u, hu, ru⟩ := RelO.some_of (v := v) (o := mA n) (by rw [← l]; exact hr n)
  exact HandSPX.exc_get I1.kIn J T.ga T.gg T.exC (PySem.W.findObj_own T.hdC hno rfl (by rw [hl, hu])) (handed_of ru) ⟨v, H1, I1.tok _, ru, q⟩
/-- isinstance(e, c), e a kept error -/
def rIsiE (K : PySem.W.Frag) : List V → Hp → VK → Prop := fun xs H Q => ∃ (a C d : Addr) (fs : List (Str × V)) (c : V) (u : Value) (b : Bool), xs = [.ref a, c] ∧ ClsV c u ∧ ExK K C ∧ H a = some (exk a (.ref C) (some d)) ∧ H d = some (.xd fs) ∧ PySem.W.kitOne K (.ref C) u = some b ∧ Q (.bl b) H
theorem call_isiE : CallR X (.builtin "isinstance") (rIsiE X.K) := by
  intro pins s σ H xs us Q I r h
  obtain ⟨a, C, d, fs, c, u, b, rfl, k, T, ea, ed, e, q⟩ := h
  obtain ⟨u1, u2, rfl, r1, r2⟩ := vals2 r
  cases k.eq r2
  cases (show u1 = Value.ref a from r1)
  obtain ⟨oe, od, mA, J, hl, hr⟩ := kept_inst I ea ed
  exact PySem.W.kia_one (PySem.W.kitx_exc (od := some od) T.cl T.xf.ga T.xf.gg T.xf.exC T.ha T.hn T.ht T.hm) I.kIn J e (fun z => nomatch z) fun tk => ⟨.bl b, H, I.tok tk, rfl, q⟩
end
end Ssb

/-! Defs and methods that may raise, called where what is raised is asked for at the caller's slots. -/
namespace Ssb
open PySem PySem.Spec L2 PyProof.Rows
structure FnX (P : Program) (w : World) (K : PySem.W.Frag) (mg : Str → Option Value) (base : Heap) (nm : Str) (k : Nat) (ps : List Str) (sp : Sp) (f : Addr) (fd : FuncData) : Prop where
  ok : FnOk P w K mg base (L2.CX P w) k f fd ps sp
  at_ : mg nm = some (.ref f)
  kp : PySem.W.keepIn K (.ref f) = true
  bd : Binds K fd ps []
structure MtX (P : Program) (w : World) (K : PySem.W.Frag) (mg : Str → Option Value) (base : Heap) (C : Addr) (nm : Str) (k : Nat) (ps : List Str) (sp : Sp) (f : Addr) (fd : FuncData) : Prop where
  ok : FnOk P w K mg base (L2.CX P w) k f fd ps sp
  mt : Meth K C nm f
  bd : Binds K fd ps []
section
variable {X : Cx} {W : WX} {nm : Str} {k j : Nat} {ps : List Str} {sp : Sp} {f : Addr} {fd : FuncData} {p pos apos : Pos} {e o : Expr} {es : List Expr} {ta : TE} {t : TA} {C : Addr} {pl : Sem Bool}
theorem passes_at (tk : Takes X W) (σ : L2.St) : PassesAt (L2.CX X.prog X.w) X σ (fun cls d H => W cls d σ H) := fun pins H s e s' I c => tk _ _ (XE.of_call I (fun _ _ _ h => h) c)
/-- f(e, ..) -/
theorem pclX (G : FnX X.prog X.w X.K X.mg X.base nm k ps sp f fd) (tk : Takes X W) (hr : Room j X.A) (ha : PA X (e :: es) t) (hj : k ≤ j := by first | decide | omega) (hg : Gl X nm := by rfl) (hdb : (nm == ("__debug__" : Str)) = false := by decide)
    (he : starEach (e :: es) X.env = (false, eval e X.env) :: starEach es X.env := by rfl) (hpl : (backTo pos (starEach es X.env)).any (·.1) = false := by rfl) : PE X (.Call (.Name nm p) (e :: es) [] pos) (tCallSD sp [] (fun σ cls d H => W cls d σ H) t) :=
  pe_callSD G.ok (hr.mono hj) hg G.at_ G.kp G.bd .nil (passes_at tk) ha hdb he hpl
/-- the reading of o.m(e, ..) -/
def tMethS (C : Addr) (m : Str) (sp : Sp) (W : WX) (ta : TE) (t : TA) : TE := fun σ H Q => ta σ H fun x H1 => ∃ a dx fs, x = .ref a ∧ H1 a = some (.ins C dx fs) ∧ fs.lookup m = none ∧ t σ H1 fun vs H2 => sp (x :: vs) H2 Q fun cls d H' => W cls d σ H'
theorem pmtX (ho : PE X o ta) (c : Cls X.K C) (G : MtX X.prog X.w X.K X.mg X.base C nm k ps sp f fd) (tk : Takes X W) (hr : Room j X.A) (ha : PA X (e :: es) t) (hj : k ≤ j := by first | decide | omega)
    (he : starEach (e :: es) X.env = (false, eval e X.env) :: starEach es X.env := by rfl) (hpl : (backTo pos (starEach es X.env)).any (·.1) = false := by rfl)
    (ht : eval (.Call (.Attribute o nm apos) (e :: es) [] pos) X.env = (do
      let ov ← eval o X.env
      standAt apos.atName
      let (f, first) ← holding [ov] (getMethod ov nm pl)
      callWith pos f first (backTo pos (starEach (e :: es) X.env)) (backToKw pos (keywordEach [] X.env))) := by rfl) : PE X (.Call (.Attribute o nm apos) (e :: es) [] pos) (tMethS C nm sp W ta t) := by
  refine ⟨fun pins s σ H Q I h => PySem.W.methodCall_KW (pl := pl) (thn (ho.run pins s σ H _ I h) fun u s1 ⟨x, H1, I1, rx, a, dx, fs, ex, ea, l, q⟩ => ?_) ht⟩
  subst ex
  cases (show u = Value.ref a from rx)
  refine getmeth_ok I1 ea c G.mt l (PySem.W.callWith_K (first := [.ref a]) (h₀ := X.base) I.ok.mod.kin G.mt.kp (thn (ha.run pos pins s1 σ H1 _ I1 q) fun us s2 ⟨vs, H2, I2, r, q2⟩ => ⟨I2.kIn, ?_⟩) he hpl)
  exact run_fnSD (E := fun σ cls d H => W cls d σ H) (dvs := []) (us := .ref a :: us) (vs := .ref a :: vs) G.ok (hr.mono hj) G.bd .nil (passes_at tk σ) I2 (.cons rfl r) (by rw [List.append_nil]; exact q2)
end
end Ssb

/-! == of nested tuples and dicts, either answer; == and != of instances by an own __eq__, either answer. -/
namespace Ssb
open PySem PySem.Spec PyProof.Rows L2
open Evl (Ex Ev EvT EvL EvA EvU)
/-- x == y answers b -/
inductive EqB (K : PySem.W.Frag) (H : Hp) : Nat → V → V → Bool → Prop
  | leaf {n : Nat} {x y : V} : flatV x = true → flatV y = true → EqB K H n x y (eqV x y)
  | same {n : Nat} {a : Addr} : EqB K H n (.ref a) (.ref a) true
  | tups {n : Nat} {a c : Addr} {xs ys : List V} {e : Nat → Bool} : a ≠ c → SqT K H a xs → SqT K H c ys → (∀ (j : Nat) (x y : V), xs[j]? = some x → ys[j]? = some y → EqB K H n x y (e j)) →
      EqB K H (n + 1) (.ref a) (.ref c) ((List.range (min xs.length ys.length)).all e && xs.length == ys.length)
  | dics {n : Nat} {a c : Addr} {ks ls : List (Key × V)} {e : Key → Bool} : a ≠ c → H a = some (.dK ks) → H c = some (.dK ls) → (∀ (k : Key) (x y : V), (k, x) ∈ ks → valV ls k = some y → EqB K H n x y (e k)) →
      EqB K H (n + 1) (.ref a) (.ref c) (ks.length == ls.length && ks.all fun p => (valV ls p.1).isSome && e p.1)
theorem kv_some {κ : Type} [DecidableEq κ] {ls : List (κ × V)} {vb : List (κ × Value)} (rb : KV ls vb) (k : κ) : (valV ls k).isSome = (valueAt vb k).isSome := by
  have := rb.val k
  cases c : valV ls k with
  | none =>
    rw [c] at this
    cases d : valueAt vb k with
    | none => rfl
    | some u => rw [d] at this; exact this.elim
  | some v =>
    rw [c] at this
    cases d : valueAt vb k with
    | none => rw [d] at this; exact this.elim
    | some u => rfl
theorem kv_all {κ : Type} [DecidableEq κ] {ls : List (κ × V)} {vb : List (κ × Value)} (rb : KV ls vb) (e : κ → Bool) {ks : List (κ × V)} {va : List (κ × Value)} (ra : KV ks va) : (ks.all fun p => (valV ls p.1).isSome && e p.1) = va.all fun p => (valueAt vb p.1).isSome && e p.1 := by
  unfold KV at ra
  induction ra with
  | nil => rfl
  | @cons p q ps qs h t ih => rw [List.all_cons, List.all_cons, ih, h.1, kv_some rb]
theorem kv_mem {κ : Type} {ks : List (κ × V)} {va : List (κ × Value)} (ra : KV ks va) : ∀ {k : κ} {v : Value}, (k, v) ∈ va → ∃ x, (k, x) ∈ ks ∧ RelV x v := by
  unfold KV at ra
  induction ra with
  | nil => intro k v h; exact nomatch h
  | @cons p q ps qs h t ih =>
    intro k v hm
    rcases List.mem_cons.mp hm with hm | hm
    · refine ⟨p.2, ?_, ?_⟩
      · have : p.1 = k := by rw [h.1, ← hm]
        rw [← this]; exact List.mem_cons_self
      · rw [← hm] at h; exact h.2
    · obtain ⟨x, h1, h2⟩ := ih hm
      exact ⟨x, List.mem_cons_of_mem _ h1, h2⟩
section
variable {X : Cx} {pins : List (Addr × Obj)} {σ : L2.St} {H : Hp} {s : Shared}
theorem vals_at {xs : List V} {us : List Value} (r : Vals xs us) {j : Nat} (h : j < us.length) : ∃ x, xs[j]? = some x ∧ RelV x us[j] := by
  induction r generalizing j with
  | nil => exact absurd h (Nat.not_lt_zero j)
  | cons a b ih =>
    cases j with
    | zero => exact ⟨_, rfl, a⟩
    | succ j => exact ih (Nat.lt_of_succ_lt_succ h)
theorem eqB_tree (I : Inv X pins σ H s) {n : Nat} {x y : V} {b : Bool} (h : EqB X.K H n x y b) : ∀ {v u : Value}, RelV x v → RelV y u → PySem.W.EqTree X.prog X.w s n v u b := by
  induction h with
  | leaf fx fy => exact fun rx ry => .leaf fun A hu => eqAt_V rx ry fx fy
  | same => exact fun rx ry => by cases rx; cases ry; exact .same
  | @tups n a c xs ys e ne ha hc _ ih =>
    intro v u rx ry
    cases rx; cases ry
    obtain ⟨us, r1, p1, _⟩ := I.tuple ha
    obtain ⟨ws, r2, p2, _⟩ := I.tuple hc
    have e1 : xs.length = us.toArray.size := by rw [List.size_toArray]; exact r1.length
    have e2 : ys.length = ws.toArray.size := by rw [List.size_toArray]; exact r2.length
    rw [e1, e2]
    refine .tuples ne p1 p2 fun j h1 h2 => ?_
    obtain ⟨x, hx, rx⟩ := vals_at r1 (j := j) (by simpa using h1)
    obtain ⟨y, hy, ry⟩ := vals_at r2 (j := j) (by simpa using h2)
    have := ih j x y hx hy rx ry
    simpa using this
  | @dics n a c ks ls e ne ha hc _ ih =>
    intro v u rx ry
    cases rx; cases ry
    obtain ⟨_, ya, va, ra, da⟩ := (show ObjOk X.prog X.w H s.heap a (.dK ks) from I.hok a _ ha)
    obtain ⟨_, yb, vb, rb, db⟩ := (show ObjOk X.prog X.w H s.heap c (.dK ls) from I.hok c _ hc)
    rw [kv_all rb e ra, ra.length, rb.length]
    refine .dicts (knd := mixKind X.prog X.w) ne ya yb da db fun k v y hm hv => ?_
    obtain ⟨x, hx, rx⟩ := kv_mem ra hm
    have := rb.val k
    rw [hv] at this
    cases hy : valV ls k with
    | none => rw [hy] at this; exact this.elim
    | some y' => rw [hy] at this; exact ih k x y' hx hy rx this
end
section
variable {X : Cx}
/-- a == b of two dicts, at the top -/
def rEqQ (K : PySem.W.Frag) : R2 := fun x y H Q => ∃ n a c ks ls, ∃ e : Key → Bool, n ≤ 50 ∧ x = .ref a ∧ y = .ref c ∧ H a = some (.dK ks) ∧ H c = some (.dK ls) ∧ (∀ (k : Key) (x y : V), (k, x) ∈ ks → valV ls k = some y → EqB K H n x y (e k)) ∧
  Q (.bl (ks.length == ls.length && ks.all fun p => (valV ls p.1).isSome && e p.1)) H
theorem op_eqQ (hu : X.A.units + 64 < cLine) : OpR X (compareOp .Eq) (rEqQ X.K) := by
  intro pins s σ H x y v u Q I rx ry h
  obtain ⟨n, a, c, ks, ls, e, hn, rfl, rfl, ha, hc, he, q⟩ := h
  cases rx; cases ry
  obtain ⟨_, ya, va, ra, da⟩ := (show ObjOk X.prog X.w H s.heap a (.dK ks) from I.hok a _ ha)
  obtain ⟨_, yb, vb, rb, db⟩ := (show ObjOk X.prog X.w H s.heap c (.dK ls) from I.hok c _ hc)
  refine PySem.W.eq_dictsT (knd := mixKind X.prog X.w) (n := n) (e := e) ya yb da db (fun k v y hm hv => ?_) (by omega) ?_
  · obtain ⟨x, hx, rx⟩ := kv_mem ra hm
    have := rb.val k
    rw [hv] at this
    cases hy : valV ls k with
    | none => rw [hy] at this; exact this.elim
    | some y' => rw [hy] at this; exact eqB_tree I (he k x y' hx hy) rx this
  · rw [← kv_all rb e ra, ← ra.length, ← rb.length]
    exact ⟨.bl _, H, I, rfl, q⟩
end
end Ssb

/-! == and != of an instance by an own __eq__ (no own __ne__), either answer, with a value of any type on the right. -/
namespace PySem.W
open Builtin PyProof.Rows
section
variable {prog : Program} {w : World} {M : Model} {A : Around} {E : Value → Shared → Prop} {s : Shared} {K : Frag} {x C f : Addr} {ox : Obj} {od : Option Obj}
/-- a built-in bound to it -/
theorem sq_bound {name : Str} {id : String} {args : List Value} {Q : Option Value → Shared → Prop} (X : K.In s.heap) (I : InstAt s.heap x ox C od) (hs : findIn K (.ref C) name = some (some (.builtin id)))
    (hb : ∀ self, bindSpecial (.builtin id) self = pure (.builtin id, [self])) (h : wpAny M A (call (.builtin id) (.ref x :: args)) (fun v => Q (some v)) E s) : wpAny M A (callSpecialIfBound? (.ref x) name args) Q E s := by
  simp only [callSpecialIfBound?, bindSpecialIfBound?]
  refine wpAny_holding (wpAny_bind (wpAny_bind (wpAny_bind (I.type.here ((looks_findIn X hs).here ?_)))))
  refine wpAny_bind (wpAny_askSetting (wpAny_ite ?_))
  have fin : wpAny M A (call (.builtin id) ([.ref x] ++ args) >>= fun v => pure (some v)) Q E s := wpAny_bind (wpAny_mono h (fun v s' h' => wpAny_pure h') fun _ _ h' => h')
  split
  · exact wpAny_bind ((Looks.of_pure (hb _)).here (wpAny_pure (by exact fin)))
  · exact wpAny_tryCatch (wpAny_bind ((Looks.of_pure (hb _)).here (wpAny_pure (by exact fin))))
/-- object.__ne__ by an own __eq__ that answers True or False -/
theorem sq_one {b : Value} {Q : Value → Shared → Prop} (hu : A.in1.units < cLine) (X : K.In s.heap) (I : InstAt s.heap x ox C od) (hm : mroIn K C (.type "object") = some true) (hn : findIn K (.ref C) "__ne__" = some (some (.builtin "object.__ne__")))
    (hs : findIn K (.ref C) "__eq__" = some (some (.ref f))) (hf : isFn K (.ref f) = true)
    (h : wpAny (model prog w) A.in1 (call (.ref f) [.ref x, b]) (fun v s' => ∃ r, v = .bool r ∧ Q (.bool (!r)) s') E s) : wpAny (model prog w) A (tryCompare (.ref x) "__ne__" b) (fun r s' => ∃ v, r = some v ∧ Q v s') E s := by
  unfold tryCompare
  refine wpAny_bind (sq_bound X I hn (by intro self; exact PySem.F.slot_tuple_iterator_ne.bind self) (wpAny_call (codeAny_call_builtin PySem.F.slot_tuple_iterator_ne.plain PySem.F.cmpEntry_ne (check_slot (i := "object.__ne__") (owner := "object") (n := "__ne__") PySem.F.cmpKind_ne PySem.F.cmpSplit_ne (I.type.andThen (looks_mroIn X hm)) (PySem.F.cmpArgs_ne _ _) ?_))))
  unfold Builtin.«object.__ne__»
  refine wpAny_bind (m := slotArgs "__ne__" 1 _) (wpAny_pure ?_)
  refine wpAny_bind (m := cRoomFor _ _) (wpAny_cRoomFor hu ?_)
  refine wpAny_bind (m := callSpecialIfBound? (.ref x) (Str.ofString "__eq__") [b]) (ifBound_K X I hs hf (wpAny_mono h (fun r s' hq => ?_) fun _ _ y => y))
  obtain ⟨r', rfl, q⟩ := hq
  refine wpAny_bind (m := truthy (.bool _)) (wpAny_truthy_bool ?_)
  first | exact ⟨_, rfl, wpAny_pure q⟩ | exact wpAny_pure ⟨_, rfl, q⟩ | exact wpAny_pure (wpAny_pure ⟨_, rfl, q⟩)
end
section
variable {prog : Program} {w : World} {A : Around} {E : Value → Shared → Prop} {s : Shared} {K : Frag} {x C L f : Addr} {h₀ : Heap} {m : Str → Option Value} {ox : Obj} {od : Option Obj} {b tb : Value}
theorem sq_ne {Q : Value → Shared → Prop} (hu : A.units < cLine) (hu1 : A.in1.units < cLine) (F : Fr h₀ L s.heap m) (X₀ : K.In h₀) (I : InstAt s.heap x ox C od) (hb : Looks (model prog w) s.heap (typeOf b) tb) (hn : notFirst K C tb = true)
    (hm : mroIn K C (.type "object") = some true) (hne : findIn K (.ref C) "__ne__" = some (some (.builtin "object.__ne__"))) (hs : findIn K (.ref C) "__eq__" = some (some (.ref f))) (hf : isFn K (.ref f) = true)
    (h : wpAny (model prog w) A.in1 (call (.ref f) [.ref x, b]) (fun v s' => ∃ r, v = .bool r ∧ Q (.bool (!r)) s') E s) : wpAny (model prog w) A (richCompare .NotEq (.ref x) b) Q E s := by
  have X := X₀.keeps F.keep
  have one := sq_one (Q := Q) hu1 X I hm hne hs hf h
  unfold richCompare
  simp only [oneThing_ref]
  refine wpAny_holding (wpAny_bind (wpAny_cRoomFor hu ?_))
  refine wpAny_bind (I.type.here (wpAny_bind (hb.here ?_)))
  split
  · rename_i q
    have e : subIn K tb (.ref C) = some false := by
      rcases Bool.or_eq_true_iff.mp hn with e | e
      · rw [beq_iff_eq.mp e] at q; simp at q
      · exact beq_iff_eq.mp e
    refine wpAny_bind ((looks_subIn X e).here ?_)
    simp only [Bool.false_eq_true, if_false]
    refine wpAny_bind (wpAny_mono one (fun r s' z => ?_) fun _ _ e => e)
    obtain ⟨v, rfl, hq⟩ := z
    exact wpAny_pure hq
  · refine wpAny_bind (wpAny_pure ?_)
    simp only [Bool.false_eq_true, if_false]
    refine wpAny_bind (wpAny_mono one (fun r s' z => ?_) fun _ _ e => e)
    obtain ⟨v, rfl, hq⟩ := z
    exact wpAny_pure hq
end
end PySem.W
namespace Ssb
open PySem PySem.Spec PyProof.Rows L2
section
variable {X : Cx}
/-- an own __eq__ answers: what sp says of the two -/
def spB2 (R : V → V → Hp → Bool → Prop) : Sp := fun vs H Q _ => ∃ (a : Addr) (y : V) (b : Bool), vs = [.ref a, y] ∧ R (.ref a) y H b ∧ ∀ H', Evl.Ex H H' → Q (.bl b) H'
structure EqFacts (K : PySem.W.Frag) (C f : Addr) : Prop where
  fn : PySem.W.isFn K (.ref f) = true
  eq : PySem.W.findIn K (.ref C) "__eq__" = some (some (.ref f))
structure NeFacts (K : PySem.W.Frag) (C : Addr) : Prop where
  ne : PySem.W.findIn K (.ref C) "__ne__" = some (some (.builtin "object.__ne__"))
  ob : PySem.W.mroIn K C (.type "object") = some true
/-- x == y where x is an instance of C with an own __eq__; y of a type that is no subclass of C -/
def rOwnB (K : PySem.W.Frag) (C : Addr) (R : V → V → Hp → Bool → Prop) (g : Bool → Bool) : R2 := fun x y H Q => ∃ a dx fs t b, x = .ref a ∧ H a = some (.ins C dx fs) ∧ TyX K H y t ∧ PySem.W.notFirst K C t = true ∧ R x y H b ∧ ∀ H', Evl.Ex H H' → Q (.bl (g b)) H'
theorem op_ownEq {CX : CXT} {C f : Addr} {fd : FuncData} {ps : List Str} {n : Nat} {R : V → V → Hp → Bool → Prop} (hr : Room n X.A) (F : FnOk X.prog X.w X.K X.mg X.base CX n f fd ps (spB2 R))
    (hs : EqFacts X.K C f) (hb : Binds X.K fd ps []) (hx : Passes CX X (fun _ _ _ => False)) : OpR X (compareOp .Eq) (rOwnB X.K C R id) := by
  intro pins s σ H x y u v Q I rx ry d
  obtain ⟨a, dx, fs, t, b, rfl, ha, ty, hn, hR, q⟩ := d
  cases rx
  obtain ⟨mA, J, _⟩ := ins_get I.hok ha
  obtain ⟨od, J, _⟩ := J.look
  obtain ⟨m, hF⟩ := I.fr
  obtain ⟨P, Z, hP, _⟩ := kit_of I ry ty
  show wpAny (model X.prog X.w) X.A (richCompare .Eq (.ref a) v) (EP X pins σ Q) X.xe s
  refine PySem.W.cmp_K (op := .Eq) (tb := t) hr.units0 hF I.ok.mod.kin J (Z.ty _ _ I.kIn hP) hn hs.eq hs.fn ?_
  have hsp : spB2 R [.ref a, y] H (fun v H' => v = .bl b ∧ Evl.Ex H H') (fun _ _ _ => False) := ⟨a, y, b, rfl, hR, fun H' e => ⟨rfl, e⟩⟩
  have e0 : Env0 X.prog X.w X.K X.mg X.base X.A X.stack s H := I.env0
  have hl := F.len _ _ _ _ hsp
  have r2 : Vals [V.ref a, y] [Value.ref a, v] := .cons rfl (.cons ry .nil)
  refine wpAny_call (codeAny_mono (F.run X.A X.stack s H ⟨[.ref a, v], []⟩ [.ref a, v] [.ref a, y] _ (fun _ _ _ => False) hr e0 (by
    have := hb s [.ref a, v] I.kIn (by simpa using hl)
    simpa using this) r2 hsp) fun r s' hq => ?_)
  cases r with
  | error e => exact hx pins σ H s e s' I hq
  | ok fl =>
    cases fl with
    | ret w =>
      obtain ⟨z, H', I', rz, ez, ex⟩ := I.after hq
      subst ez
      cases rz
      exact ⟨.bl b, H', I', rfl, q H' ex⟩
    | next => exact False.elim hq
    | brk => exact False.elim hq
    | cont => exact False.elim hq
theorem op_ownNe {CX : CXT} {C f : Addr} {fd : FuncData} {ps : List Str} {n : Nat} {R : V → V → Hp → Bool → Prop} (hr : Room (n + 1) X.A) (F : FnOk X.prog X.w X.K X.mg X.base CX n f fd ps (spB2 R))
    (hs : EqFacts X.K C f) (hn2 : NeFacts X.K C) (hb : Binds X.K fd ps []) (hx : Passes CX X (fun _ _ _ => False)) : OpR X (compareOp .NotEq) (rOwnB X.K C R not) := by
  intro pins s σ H x y u v Q I rx ry d
  obtain ⟨a, dx, fs, t, b, rfl, ha, ty, hn, hR, q⟩ := d
  cases rx
  obtain ⟨mA, J, _⟩ := ins_get I.hok ha
  obtain ⟨od, J, _⟩ := J.look
  obtain ⟨m, hF⟩ := I.fr
  obtain ⟨P, Z, hP, _⟩ := kit_of I ry ty
  show wpAny (model X.prog X.w) X.A (richCompare .NotEq (.ref a) v) (EP X pins σ Q) X.xe s
  refine PySem.W.sq_ne (tb := t) hr.units0 hr.in1.units0 hF I.ok.mod.kin J (Z.ty _ _ I.kIn hP) hn hn2.ob hn2.ne hs.eq hs.fn ?_
  have hsp : spB2 R [.ref a, y] H (fun v H' => v = .bl b ∧ Evl.Ex H H') (fun _ _ _ => False) := ⟨a, y, b, rfl, hR, fun H' e => ⟨rfl, e⟩⟩
  have e0 : Env0 X.prog X.w X.K X.mg X.base X.A.in1 X.stack s H := by
    have e := I.env0
    exact ⟨e.frames, e.mod, e.bs, e.bsz, e.funs, e.frf, e.hok, e.bare⟩
  have hl := F.len _ _ _ _ hsp
  have r2 : Vals [V.ref a, y] [Value.ref a, v] := .cons rfl (.cons ry .nil)
  refine wpAny_call (codeAny_mono (F.run X.A.in1 X.stack s H ⟨[.ref a, v], []⟩ [.ref a, v] [.ref a, y] _ (fun _ _ _ => False) hr.in1 e0 (by
    have := hb s [.ref a, v] I.kIn (by simpa using hl)
    simpa using this) r2 hsp) fun r s' hq => ?_)
  cases r with
  | error e => exact hx pins σ H s e s' I hq
  | ok fl =>
    cases fl with
    | ret w =>
      obtain ⟨z, H', I', rz, ez, ex⟩ := I.after hq
      subst ez
      cases rz
      exact ⟨b, rfl, .bl (!b), H', I', rfl, q H' ex⟩
    | next => exact False.elim hq
    | brk => exact False.elim hq
    | cont => exact False.elim hq
end
end Ssb

/-! list(reversed(a list)) as one expression. -/
namespace Ssb
open PySem PySem.Spec PyProof.Rows L2 RT
section
variable {pr : Program} {wd : World} {Ar : Around} {Er : Value → Shared → Prop} {st : Shared}
/-- a fresh list taking what the walker over l, from its end, hands out -/
theorem ext_rev {R : Result → Shared → Prop} {it l S : Addr} {vs : Array Value} (hh : Ar.handled = none) (hit : st.heap.IsRevIter it l ((vs.size : Int) - 1)) (hl : st.heap.IsList l vs) (n1 : l ≠ it) (n2 : S ≠ it) (n3 : S ≠ l) (hn : vs.size ≤ sizeLine)
    (res : Value) (c₀ : Nat) (hS : st.heap.get? S = some { cls := .type "list", data := .seq #[] c₀ })
    (k : ∀ (h' : Heap) (tk : Nat) (acc : Array Value) (c' : Nat), (∀ b o, b ≠ S → b ≠ it → st.heap.get? b = some o → h'.get? b = some o) → h'.get? S = some { cls := .type "list", dict := none, data := .seq acc c', slots := #[] } →
      ItemsOf (fun i v => vs[vs.size - 1 - i]? = some v) acc vs.size → R (.ok (.ret res)) { st with heap := h', toks := tk }) :
    wpAny (model pr wd) Ar.in1 (Builtin.List.listExtendWith (.ref S) (.ref it) res) (fun fin z => match fin with | .done f => R (.ok f) z | .again c' => c'.quiet = true ∧ codeAny (model pr wd) Ar c' R z) (fun e z => R (.error e) z) st := by
  have W := (Walks.listRev (prog := pr) (w := wd) (A := Ar.in1) hh it l n1 vs).toS
  have out : S ∉ [it, l] := by simp [n2, n3]
  have ht : st.TypeIs (.ref it) "list_reverseiterator" := hit.typeIs
  have ns : Builtin.List.listSameRef (.ref S) (.ref it) = false := by simp [Builtin.List.listSameRef, n2]
  unfold Builtin.List.listExtendWith
  refine wpAny_bind (wpAny_typeOf ht ?_)
  rw [if_neg (by rw [ns]; decide)]
  refine wpAny_bind (wpAny_pyIter_revIter hit (wpAny_bind (wpAny_holding ?_)))
  unfold Builtin.List.listLengthHint
  refine wpAny_bind (wpAny_specialOf ht nolen_lri ?_)
  show wpAny _ _ (specialOf (.ref it) (Str.ofString "__length_hint__") >>= _) _ _ _
  refine wpAny_bind (wpAny_specialOf ht hint_lri ?_)
  generalize hid : ("list_reverseiterator.__length_hint__" : String) = hintName
  wp_delta
  rw [show splitId hintName = some ("list_reverseiterator", "__length_hint__") from by rw [← hid]; decide +kernel]
  subst hid
  refine wpAny_bind (wpAny_isInstance (b := true) ht (by rw [isSubtype_type]; kernel_rfl) (wpAny_pure ?_))
  rw [if_neg (by decide)]
  have e0 : (vs.size : Int) - 1 = (vs.size : Int) - 1 - ((0 : Nat) : Int) := by omega
  rw [e0] at hit
  refine wpAny_pure ⟨plainId_quiet F.plain_extend_loop _, codeAny_extend_loopS W hn S out res vs.size 0 _ _ _ rfl (Nat.zero_le _) ⟨Nat.zero_le _, hit, hl⟩ hS (ItemsOf.nil _) fun z acc c' mv hz hi => ?_⟩
  rw [Moved.eq_with mv]
  exact k z.heap z.toks acc c' (fun b o b1 b2 e => mv.heap b o (by simp [b1, b2]) e) hz hi
theorem list_init_rev {R : Result → Shared → Prop} {it l S : Addr} {vs : Array Value} (hh : Ar.handled = none) (hit : st.heap.IsRevIter it l ((vs.size : Int) - 1)) (hl : st.heap.IsList l vs) (n1 : l ≠ it) (n2 : S ≠ it) (n3 : S ≠ l) (hn : vs.size ≤ sizeLine)
    (hS : st.heap.get? S = some { cls := .type "list", data := .seq #[] })
    (k : ∀ (h' : Heap) (tk : Nat) (acc : Array Value) (c' : Nat), (∀ b o, b ≠ S → b ≠ it → st.heap.get? b = some o → h'.get? b = some o) → h'.get? S = some { cls := .type "list", dict := none, data := .seq acc c', slots := #[] } →
      ItemsOf (fun i v => vs[vs.size - 1 - i]? = some v) acc vs.size → R (.ok (.ret .none)) { st with heap := h', toks := tk }) :
    wpAny (model pr wd) Ar.in1 (Builtin.«list.__init__» ⟨[.ref S, .ref it], []⟩) (fun fin z => match fin with | .done f => R (.ok f) z | .again c' => c'.quiet = true ∧ codeAny (model pr wd) Ar c' R z) (fun e z => R (.error e) z) st := by
  show wpAny _ _ (Builtin.List.listItems (.ref S) >>= fun old => Builtin.List.listUpdate (.ref S) (fun _ => #[]) >>= fun _ => letGo old.toList.reverse >>= fun _ => Builtin.List.listExtendWith (.ref S) (.ref it) .none) _ _ st
  refine wpAny_bind ?_
  unfold Builtin.List.listItems
  refine wpAny_bind (wpAny_seqItems hS rfl (wpAny_pure (wpAny_bind ?_)))
  show wpAny _ _ (updateSeq S fun _ => #[]) _ _ _
  have kept : ∀ b o, b ≠ S → st.heap.get? b = some o → (st.heap.update S (Obj.mapSeq fun _ => (#[] : Array Value))).get? b = some o := fun b o hb e => (Heap.get?_update_other _ _ (Ne.symm hb)).trans e
  refine wpAny_updateSeq hS rfl (wpAny_bind (wpAny_letGo ?_))
  exact ext_rev hh (hit.at fun o e => kept it o (Ne.symm n2) e) (hl.at fun o e => kept l o (Ne.symm n3) e) n1 n2 n3 hn .none _ (Heap.get?_update_self (Obj.mapSeq fun _ => (#[] : Array Value)) hS rfl) fun h' tk acc c' q => k h' tk acc c' fun b o b1 b2 e => q b o b1 b2 (kept b o b1 e)
theorem call_list_rev {Q : Value → Shared → Prop} {it l : Addr} {vs : Array Value} (hh : Ar.handled = none) (hit : st.heap.IsRevIter it l ((vs.size : Int) - 1)) (hl : st.heap.IsList l vs) (n1 : l ≠ it) (hn : vs.size ≤ sizeLine)
    (k : ∀ (h' : Heap) (tk : Nat) (acc : Array Value) (c' : Nat), (∀ b o, b ≠ it → st.heap.get? b = some o → h'.get? b = some o) → h'.get? st.heap.objs.size = some { cls := .type "list", dict := none, data := .seq acc c', slots := #[] } →
      ItemsOf (fun i v => vs[vs.size - 1 - i]? = some v) acc vs.size → Q (.ref st.heap.objs.size) { st with heap := h', toks := tk }) : wpAny (model pr wd) Ar (call (.type "list") [.ref it]) Q Er st := by
  obtain ⟨oi, hoi, _⟩ := id hit
  obtain ⟨ol, hol, _⟩ := id hl
  refine callType_codes (Q₁ := fun u z => u = .ref st.heap.objs.size ∧ z = { st with heap := st.heap.push { cls := .type "list", data := .seq #[] } }) F.called_list (F.typeCall_list_1 _) F.entry_list_init (code_list_new _ ⟨rfl, rfl⟩) ?_
  rintro u z ⟨rfl, rfl⟩
  have hS : (st.heap.push { cls := .type "list", data := .seq #[] }).get? st.heap.objs.size = some { cls := .type "list", data := .seq #[] } := Heap.get?_push_size _ rfl
  refine ⟨⟨_, hS, rfl⟩, F.args_list_init_2 _ _, list_init_rev (Ar := Ar.in1) (it := it) (l := l) (vs := vs) hh (hit.at fun o e => Heap.get?_push_of_some _ e) (hl.push _) n1 (Nat.ne_of_gt (Heap.lt_size hoi)) (Nat.ne_of_gt (Heap.lt_size hol)) hn hS fun h' tk acc c' q hz hi => ⟨rfl, ?_⟩⟩
  exact k h' tk acc c' (fun b o hb e => q b o (Nat.ne_of_lt (Heap.lt_size e)) hb (Heap.get?_push_of_some _ e)) hz hi
end
/-- list(reversed(e)), e a list -/
def tLstRev (K : PySem.W.Frag) (te : TE) : TE := fun σ H Q => te σ H fun x H1 => ∃ (a : Addr) (xs : List V), x = .ref a ∧ SqL K H1 a xs ∧ ∀ p, H1 p = none → Q (.ref p) (upd H1 p (.lst xs.reverse))
section
variable {X : Cx}
theorem pe_lstRev {e : Expr} {te : TE} {q1 q2 c1 c2 : Pos} (hc : X.calm = true) (g1 : Gl X "list") (m1 : X.mg "list" = none) (g2 : Gl X "reversed") (m2 : X.mg "reversed" = none) (he : PE X e te)
    (h1 : starEach [e] X.env = (false, eval e X.env) :: starEach [] X.env := by rfl)
    (h2 : starEach [.Call (.Name "reversed" q2) [e] [] c2] X.env = (false, eval (.Call (.Name "reversed" q2) [e] [] c2) X.env) :: starEach [] X.env := by rfl) :
    PE X (.Call (.Name "list" q1) [.Call (.Name "reversed" q2) [e] [] c2] [] c1) (tLstRev X.K te) := by
  refine ⟨fun pins s σ H Q I h => ?_⟩
  refine Call_ (ld_blt I g1 m1 boot_list (PyProof.Rows.callWith_type1 (args_cons ?_ h2) h2 rfl))
  refine Call_ (ld_blt I g2 m2 PyProof.Rows.boot_reversed (PyProof.Rows.callWith_type1 (args_cons ?_ h1) h1 rfl))
  refine thn (he.run pins s σ H _ I h) fun u s1 ⟨v, H1, I1, r1, a, xs, ev, hq, q⟩ => args_nil ?_
  subst ev
  obtain rfl : u = Value.ref a := r1
  obtain ⟨its, rv, pl, hz⟩ := I1.list hq
  have il := pl.isList
  obtain ⟨ol, hol, _⟩ := id il
  refine call_reversed_list il (args_nil ?_)
  have I2 : Inv X pins σ H1 { s1 with heap := s1.heap.push (revObj a ((its.toArray.size : Int) - 1)) } := I1.kept (t' := s1.toks) fun b o e => Heap.get?_push_of_some _ e
  obtain ⟨f0, f1, f2, f3, f4, f5⟩ := I1.fpOk (H' := H1) (b := s1.heap.objs.size) (Nat.le_refl _) (I1.hok.fresh (Nat.le_refl _))
  have small : its.toArray.size ≤ sizeLine := by rw [List.size_toArray, ← rv.length]; exact hz
  refine call_list_rev (st := { s1 with heap := s1.heap.push (revObj a ((its.toArray.size : Int) - 1)) }) (it := s1.heap.objs.size) (l := a) (vs := its.toArray) (I1.ok.hd hc) ⟨_, Heap.get?_push_size _ rfl, rfl, rfl⟩ (il.push _) (Nat.ne_of_lt (Heap.lt_size hol)) small fun h' tk acc c' hk hz' hi => ?_
  have all : ∀ b o, s1.heap.get? b = some o → h'.get? b = some o := fun b o e => hk b o (Nat.ne_of_lt (Heap.lt_size e)) (Heap.get?_push_of_some _ e)
  have lo : s1.heap.objs.size ≤ (s1.heap.push (revObj a ((its.toArray.size : Int) - 1))).objs.size := by
    show s1.heap.objs.size ≤ (s1.heap.objs.push _).size
    rw [Array.size_push]; omega
  exact ⟨.ref _, upd H1 _ (.lst xs.reverse), I1.laid (t' := tk) all lo (show ObjOk X.prog X.w _ _ _ (.lst xs.reverse) from ⟨by rw [List.length_reverse]; exact hz, acc.toList, c', vals_rev rv hi, by rw [Array.toArray_toList]; exact hz'⟩), rfl, q _ (I1.hok.fresh lo)⟩
end
end Ssb

namespace Pk
open PySem PySem.Spec PyProof.Rows L2 Ssb
/-- the i-th statement of the text -/
def topS (i : Nat) : Stmt := PySem.Challenge.pw_statestay_k03_shapes_equal.main.body.getD i (.Pass ⟨0, 0, 0, 0⟩)
abbrev s_is_word : Stmt := topS 5
theorem sc_is_word : FnScope ["value", "letter"] ["value"] (defScope s_is_word) := ⟨rfl, rfl, rfl, by decide +kernel, rfl, by decide +kernel, by decide +kernel⟩
abbrev s_are_words : Stmt := topS 6
theorem sc_are_words : FnScope ["values", "least", "most", "value"] ["values", "least", "most"] (defScope s_are_words) := ⟨rfl, rfl, rfl, by decide +kernel, rfl, by decide +kernel, by decide +kernel⟩
abbrev s_has_names : Stmt := topS 7
theorem sc_has_names : FnScope ["value", "names", "name"] ["value", "names"] (defScope s_has_names) := ⟨rfl, rfl, rfl, by decide +kernel, rfl, by decide +kernel, by decide +kernel⟩
abbrev s_is_named : Stmt := topS 8
theorem sc_is_named : FnScope ["value", "most", "key"] ["value", "most"] (defScope s_is_named) := ⟨rfl, rfl, rfl, by decide +kernel, rfl, by decide +kernel, by decide +kernel⟩
abbrev s_wrong_part : Stmt := topS 10
theorem sc_wrong_part : FnScope ["flags", "lists", "rows", "name", "parent", "fields"] ["flags", "lists"] (defScope s_wrong_part) := ⟨rfl, rfl, rfl, by decide +kernel, rfl, by decide +kernel, by decide +kernel⟩
abbrev s_are_lists : Stmt := topS 11
theorem sc_are_lists : FnScope ["lists", "outer", "inner"] ["lists"] (defScope s_are_lists) := ⟨rfl, rfl, rfl, by decide +kernel, rfl, by decide +kernel, by decide +kernel⟩
abbrev s_are_list_shapes : Stmt := topS 12
theorem sc_are_list_shapes : FnScope ["lists", "most", "one"] ["lists", "most"] (defScope s_are_list_shapes) := ⟨rfl, rfl, rfl, by decide +kernel, rfl, by decide +kernel, by decide +kernel⟩
abbrev s_list_rows : Stmt := topS 13
theorem sc_list_rows : FnScope ["lists", "rows", "name", "outer", "deep", "inner"] ["lists"] (defScope s_list_rows) := ⟨rfl, rfl, rfl, by decide +kernel, rfl, by decide +kernel, by decide +kernel⟩
abbrev s_are_fields : Stmt := topS 14
theorem sc_are_fields : FnScope ["fields", "words"] ["fields"] (defScope s_are_fields) := ⟨rfl, rfl, rfl, by decide +kernel, rfl, by decide +kernel, by decide +kernel⟩
abbrev s_Shape_init : Stmt := inClass (topS 16) 0
theorem sc_Shape_init : FnScope ["self", "flags", "lists", "part", "name", "parent", "fields"] ["self", "flags", "lists"] (defScope s_Shape_init) := ⟨rfl, rfl, rfl, by decide +kernel, rfl, by decide +kernel, by decide +kernel⟩
abbrev s_Shape_eq : Stmt := inClass (topS 16) 1
theorem sc_Shape_eq : FnScope ["self", "other"] ["self", "other"] (defScope s_Shape_eq) := ⟨rfl, rfl, rfl, by decide +kernel, rfl, by decide +kernel, by decide +kernel⟩
abbrev s__law_stream : Stmt := topS 18
theorem sc__law_stream : FnScope ["_law_script", "_law_cells", "_law_cell"] ["_law_script"] (defScope s__law_stream) := ⟨rfl, rfl, rfl, by decide +kernel, rfl, by decide +kernel, by decide +kernel⟩
abbrev s__law_draw : Stmt := topS 19
theorem sc__law_draw : FnScope ["_law_stream_here", "_law_many", "_law_cells", "_law_step", "_law_at", "_law_cell", "_law_number"] ["_law_stream_here", "_law_many"] (defScope s__law_draw) := ⟨rfl, rfl, rfl, by decide +kernel, rfl, by decide +kernel, by decide +kernel⟩
abbrev s__law_copy : Stmt := topS 20
theorem sc__law_copy : FnScope ["_law_value", "_law_result", "_law_key", "_law_part"] ["_law_value"] (defScope s__law_copy) := ⟨rfl, rfl, rfl, by decide +kernel, rfl, by decide +kernel, by decide +kernel⟩
abbrev s__law_turned : Stmt := topS 21
theorem sc__law_turned : FnScope ["_law_value", "_law_result", "_law_key", "_law_part"] ["_law_value"] (defScope s__law_turned) := ⟨rfl, rfl, rfl, by decide +kernel, rfl, by decide +kernel, by decide +kernel⟩
abbrev s__law_word : Stmt := topS 22
theorem sc__law_word : FnScope ["_law_stream_here", "_law_letters", "_law_size", "_law_number", "_law_word_here", "_law_k"] ["_law_stream_here"] (defScope s__law_word) := ⟨rfl, rfl, rfl, by decide +kernel, rfl, by decide +kernel, by decide +kernel⟩
abbrev s__law_names : Stmt := topS 23
theorem sc__law_names : FnScope ["_law_stream_here", "_law_many", "_law_taken", "_law_names_here", "_law_k", "_law_word_here", "_law_spares", "_law_spare"] ["_law_stream_here", "_law_many", "_law_taken"] (defScope s__law_names) := ⟨rfl, rfl, rfl, by decide +kernel, rfl, by decide +kernel, by decide +kernel⟩
abbrev s__law_fields : Stmt := topS 24
theorem sc__law_fields : FnScope ["_law_stream_here", "_law_most", "_law_fields_here", "_law_name"] ["_law_stream_here", "_law_most"] (defScope s__law_fields) := ⟨rfl, rfl, rfl, by decide +kernel, rfl, by decide +kernel, by decide +kernel⟩
abbrev s__law_lists : Stmt := topS 25
theorem sc__law_lists : FnScope ["_law_stream_here", "_law_most", "_law_names_here", "_law_lists_here", "_law_k", "_law_inner"] ["_law_stream_here", "_law_most"] (defScope s__law_lists) := ⟨rfl, rfl, rfl, by decide +kernel, rfl, by decide +kernel, by decide +kernel⟩
abbrev s__law_about : Stmt := topS 26
theorem sc__law_about : FnScope ["_law_lists_here", "_law_about_here", "_law_name", "_law_inner"] ["_law_lists_here"] (defScope s__law_about) := ⟨rfl, rfl, rfl, by decide +kernel, rfl, by decide +kernel, by decide +kernel⟩
abbrev s__law_without : Stmt := topS 27
theorem sc__law_without : FnScope ["_law_table", "_law_at", "_law_result", "_law_k", "_law_key"] ["_law_table", "_law_at"] (defScope s__law_without) := ⟨rfl, rfl, rfl, by decide +kernel, rfl, by decide +kernel, by decide +kernel⟩
abbrev s__law_changed_list : Stmt := topS 28
theorem sc__law_changed_list : FnScope ["_law_stream_here", "_law_described", "_law_way", "_law_spare", "_law_fields_here", "_law_inner", "_law_name", "_law_turned_here"] ["_law_stream_here", "_law_described", "_law_way", "_law_spare"] (defScope s__law_changed_list) := ⟨rfl, rfl, rfl, by decide +kernel, rfl, by decide +kernel, by decide +kernel⟩
abbrev s__law_changed : Stmt := topS 29
theorem sc__law_changed : FnScope ["_law_stream_here", "_law_flags", "_law_lists_here", "_law_way", "_law_spare", "_law_at", "_law_result", "_law_k", "_law_name"] ["_law_stream_here", "_law_flags", "_law_lists_here"] (defScope s__law_changed) := ⟨rfl, rfl, rfl, by decide +kernel, rfl, by decide +kernel, by decide +kernel⟩
abbrev s_law : Stmt := topS 30
theorem sc_law : FnScope ["_law_script", "_law_stream_here", "_law_way", "_law_flags", "_law_lists_here", "_law_other", "_law_one", "_law_two", "_law_due", "_law_told", "_law_value"] ["_law_script"] (defScope s_law) := ⟨rfl, rfl, rfl, by decide +kernel, rfl, by decide +kernel, by decide +kernel⟩
/-- what the module says of built-ins, constants and classes -/
structure Txt (K : PySem.W.Frag) (mg : Str → Option Value) (C_Shape : Addr) : Prop where
  all : mg "all" = none
  enumerate : mg "enumerate" = none
  int : mg "int" = none
  str : mg "str" = none
  bool : mg "bool" = none
  isinstance : mg "isinstance" = none
  len : mg "len" = none
  list : mg "list" = none
  max : mg "max" = none
  range : mg "range" = none
  reversed : mg "reversed" = none
  sorted : mg "sorted" = none
  tuple : mg "tuple" = none
  set : mg "set" = none
  dict : mg "dict" = none
  cl_Shape : Cls K C_Shape
  mk_Shape : PySem.W.makesIn K C_Shape = true
  kp_Shape : PySem.W.keepIn K (.ref C_Shape) = true
  at_Shape : mg "Shape" = some (.ref C_Shape)
  kl_Shape : PySem.W.findIn K (.ref C_Shape) "__class__" = some (some (.builtin "object.__class__"))
  km_Shape : PySem.W.mroIn K C_Shape (.type "object") = some true
  se_Shape : PySem.W.kitOne K (.ref C_Shape) (.ref C_Shape) = some true
  ne_Shape : PySem.W.findIn K (.ref C_Shape) "__ne__" = some (some (.builtin "object.__ne__"))
  gt_cls : PySem.W.specialIn K (.builtin "object.__class__") "__get__" = some (some (.builtin "getset_descriptor.__get__"))
  tk_cls : PySem.W.takesIn K (.builtin "object.__class__") = some true
  ks_str : PySem.W.kitOne K (.type "str") (.ref C_Shape) = some false
  ks_tup : PySem.W.kitOne K (.type "tuple") (.ref C_Shape) = some false
  ks_non : PySem.W.kitOne K (.type "NoneType") (.ref C_Shape) = some false
  no_Shape_flags : NoAttr K C_Shape "flags"
  no_Shape_table : NoAttr K C_Shape "table"
/-- a def as it stands -/
def Here (K : PySem.W.Frag) (mg : Str → Option Value) (nm : Str) (st : Stmt) : Prop := ∃ f fd, mg nm = some (.ref f) ∧ Fun K nm nm st f fd ∧ PySem.W.keepIn K (.ref f) = true
def HereM (K : PySem.W.Frag) (C : Addr) (nm qual : Str) (st : Stmt) : Prop := ∃ f fd, Fun K nm qual st f fd ∧ PySem.W.findIn K (.ref C) nm = some (some (.ref f)) ∧ PySem.W.isFn K (.ref f) = true ∧ PySem.W.keepIn K (.ref f) = true
structure Prg (K : PySem.W.Frag) (mg : Str → Option Value) (C_Shape : Addr) : Prop where
  is_word : Here K mg "is_word" s_is_word
  are_words : Here K mg "are_words" s_are_words
  has_names : Here K mg "has_names" s_has_names
  is_named : Here K mg "is_named" s_is_named
  wrong_part : Here K mg "wrong_part" s_wrong_part
  are_lists : Here K mg "are_lists" s_are_lists
  are_list_shapes : Here K mg "are_list_shapes" s_are_list_shapes
  list_rows : Here K mg "list_rows" s_list_rows
  are_fields : Here K mg "are_fields" s_are_fields
  Shape_init : HereM K C_Shape "__init__" "Shape.__init__" s_Shape_init
  Shape_eq : HereM K C_Shape "__eq__" "Shape.__eq__" s_Shape_eq
  _law_stream : Here K mg "_law_stream" s__law_stream
  _law_draw : Here K mg "_law_draw" s__law_draw
  _law_copy : Here K mg "_law_copy" s__law_copy
  _law_turned : Here K mg "_law_turned" s__law_turned
  _law_word : Here K mg "_law_word" s__law_word
  _law_names : Here K mg "_law_names" s__law_names
  _law_fields : Here K mg "_law_fields" s__law_fields
  _law_lists : Here K mg "_law_lists" s__law_lists
  _law_about : Here K mg "_law_about" s__law_about
  _law_without : Here K mg "_law_without" s__law_without
  _law_changed_list : Here K mg "_law_changed_list" s__law_changed_list
  _law_changed : Here K mg "_law_changed" s__law_changed
  law : Here K mg "law" s_law
theorem here_mk {K : PySem.W.Frag} {h : Heap} {mg : Str → Option Value} (X : K.In h) (G : h.Ns mainGlobals mg) {nm : Str} {st : Stmt} {f : Addr} {oc : Value} {od an : Option Addr} {sl : Array (Option Value)} {kV dc pm cd ct : Value}
    (a : PySem.W.nsIn K mainGlobals nm = some (some (.ref f))) (l : K.lookup f = some ⟨oc, od, .func (PySem.W.fnOf nm nm (defArgs st) (defBody st) (defScope st) .none kV dc pm an cd ct), sl⟩) (c : PySem.W.codeIn K cd nm = true) (k : PySem.W.keepIn K (.ref f) = true) : Here K mg nm st :=
  ⟨f, _, PySem.W.mg_of X G a, fun_mk (st := st) l c k, k⟩
theorem hereM_mk {K : PySem.W.Frag} {C : Addr} {nm qual : Str} {st : Stmt} {f : Addr} {oc : Value} {od an : Option Addr} {sl : Array (Option Value)} {kV dc pm cd ct : Value}
    (a : PySem.W.findIn K (.ref C) nm = some (some (.ref f))) (i : PySem.W.isFn K (.ref f) = true) (l : K.lookup f = some ⟨oc, od, .func (PySem.W.fnOf nm qual (defArgs st) (defBody st) (defScope st) .none kV dc pm an cd ct), sl⟩) (c : PySem.W.codeIn K cd qual = true) (k : PySem.W.keepIn K (.ref f) = true) : HereM K C nm qual st :=
  ⟨f, _, fun_mk (st := st) l c k, a, i, k⟩
def spLaw (K : PySem.W.Frag) : Sp := fun vs H Q _ => ∃ (a : Addr) (ns : List Int), vs = [.ref a] ∧ SqL K H a (ns.map V.int) ∧ ns.length ≤ 63 ∧ ∀ H', Q (.bl true) H'

end Pk

namespace Pk
open PySem PySem.Spec PyProof.Rows L2 Ssb
open Evl (Ex Ev EvT EvL EvA EvU)
/-! ### promises of defs that hand back True -/
/-- where pre holds, z comes back, and only objects are made -/
def spV (z : V) (pre : List V → Hp → Prop) : Sp := fun vs H Q _ => pre vs H ∧ ∀ H', Ex H H' → Q z H'
theorem spV_ev {z : V} {pre : List V → Hp → Prop} {vs : List V} {ta : TA} {σ : L2.St} {H : Hp} (h : EvA ta σ H vs) (hp : ∀ H1, Ex H H1 → pre vs H1) : Ev (tCall (spV z pre) [] E0 ta) σ H z := ev_fn h fun H1 e Q q => ⟨hp H1 e, q⟩
/-- a word -/
def isW (s : Str) : Prop := 1 ≤ s.length ∧ s.length ≤ 8 ∧ ∀ c ∈ s.cps.toList, 97 ≤ c ∧ c ≤ 122
theorem lt_one {a b : Nat} (h : a ≤ b) : (!decide ([b] < [a])) = true := by
  have : ¬ ([b] < [a]) := by
    intro z
    rcases List.cons_lt_cons_iff.mp z with z | z
    · omega
    · exact absurd z.2 (by simp)
  simp [this]
section
variable {P : Program} {w : World} {K : PySem.W.Frag} {mg : Str → Option Value} {base : Heap} {C_Shape : Addr}
def preWord : List V → Hp → Prop := fun vs _ => ∃ s, vs = [.str s] ∧ isW s
theorem ok_is_word (T : Txt K mg C_Shape) (R : Prg K mg C_Shape) : ∃ f fd, Fn P w K mg base "is_word" 1 ["value"] (spV (.bl true) preWord) f fd := by
  obtain ⟨f, fd, at_, F, kp⟩ := R.is_word
  refine ⟨f, fd, F.ok sc_is_word (fun vs H Q E h => ?_) (fun cdv A outer s H vs Q E hr h => ?_), at_, kp, F.binds (fun _ _ _ _ _ _ us hl => match us, hl with | [_], _ => rfl)⟩
  · obtain ⟨⟨s, rfl, _⟩, _⟩ := h; rfl
  · obtain ⟨⟨x, rfl, h1, h8, hc⟩, k⟩ := h
    refine ⟨_, (pss_cons (ps_if (PW.pt (pw_or (pt_not (pt_val (pe_callB (r := rIsi K) call_isi (by rfl) T.isinstance (by decide +kernel) (pa_cons (pv 0) (pa_cons (pe_bltn (v := .ty "str") (by rfl) T.str boot_str rfl) pa_nil))))) (pw_or1 (pt_not (pt_chain op_le op_le pe_int (pe_callB (r := rLenA K) call_len (by rfl) T.len (by decide +kernel) (pa_cons (pv 0) pa_nil)) pe_int))))) pss_never pss_nil)
  (pss_one (ps_ret (pe_callB (r := rAll K) (cr_all rfl) (by rfl) T.all (by decide +kernel) (pa_cons (pe_lc (own := [("letter", 1)]) rfl sc_is_word.nd (pi_str (pv 0)) (blkOk_by (own := [("letter", 1)]) (N := ["value", "letter"]) (sc := defScope s_is_word) (by decide +kernel)) (fun _ _ _ _ _ => (pg_name (i := 1) sc_is_word.nd rfl (Or.inl rfl))) (fun _ _ _ _ _ => pts_nil) (fun _ _ _ _ _ => (pe_chain op_le_str op_le_str pe_str (pv 1) pe_str))) pa_nil))))), ?_⟩
    refine Evl.q_when (b := false) (Evl.et_or (a := false) (b := false) (Evl.et_not (a := true) (Evl.et_B (ev_isi (Evl.ev_var rfl) (fun H1 _ => .base (.str x)) (kit_ty (by decide +kernel))))) fun _ => Evl.et_not (a := true) (Evl.et_test ?_)) (fun h => nomatch h) fun _ H1 e1 => ?_
    · refine Evl.ev_is (ev_chain Evl.ev_c (ev_lenS (Evl.ev_var rfl) (by omega)) Evl.ev_c Evl.rv_I0 Evl.rv_I0) ?_
      rw [decide_eq_true (by omega : (1 : Int) ≤ (x.length : Int)), decide_eq_true (by omega : (x.length : Int) ≤ 8)]
      rfl
    · refine Evl.s_ret (ev_allT (n := x.length) (el_lcS (Evl.ev_var rfl) (by omega) (fun _ => rfl) fun i c hi H2 e2 => ?_)) fun H2 e2 => k H2 (e1.trans e2)
      obtain ⟨ha, hz⟩ := hc c (by rw [← Array.getElem?_toList] at hi; exact List.mem_of_getElem? hi)
      refine Evl.ev_is (ev_chain (b1 := true) (b2 := true) Evl.ev_c (Evl.ev_var rfl) Evl.ev_c ?_ ?_) rfl
      · exact fun H1 _ Q q => ⟨_, _, rfl, rfl, by rw [show (!decide ((⟨#[c]⟩ : Str).cps.toList < ("a" : Str).cps.toList)) = true from lt_one ha]; exact q H1 (Ex.refl _)⟩
      · exact fun H1 _ Q q => ⟨_, _, rfl, rfl, by rw [show (!decide (("z" : Str).cps.toList < (⟨#[c]⟩ : Str).cps.toList)) = true from lt_one hz]; exact q H1 (Ex.refl _)⟩

/-! ### are_words, of a list and of a tuple -/
def preWords (t : Bool) (K : PySem.W.Frag) : List V → Hp → Prop := fun vs H => ∃ (a : Addr) (xs : List Str) (lo hi : Int), vs = [.ref a, .int lo, .int hi] ∧ (if t = true then SqT K H a (xs.map V.str) else SqL K H a (xs.map V.str)) ∧ xs.length ≤ 1000 ∧ lo ≤ xs.length ∧ (xs.length : Int) ≤ hi ∧ (∀ x ∈ xs, isW x) ∧ xs.Nodup
theorem okF_are_wordsL (T : Txt K mg C_Shape) (R : Prg K mg C_Shape) {f : Addr} {fd : FuncData} (at_ : mg "are_words" = some (.ref f)) (F : Fun K "are_words" "are_words" s_are_words f fd) (kp : PySem.W.keepIn K (.ref f) = true) : Fn P w K mg base "are_words" 2 ["values", "least", "most"] (spV (.bl true) (preWords false K)) f fd := by
  obtain ⟨_, _, G_is_word⟩ := ok_is_word (P := P) (w := w) (base := base) T R
  refine ⟨F.ok sc_are_words (fun vs H Q E h => ?_) (fun cdv A outer s H vs Q E hr h => ?_), at_, kp, F.binds (fun _ _ _ _ _ _ us hl => match us, hl with | [_, _, _], _ => rfl)⟩
  · obtain ⟨⟨a, xs, lo, hi, rfl, _⟩, _⟩ := h; rfl
  · obtain ⟨⟨a, xs, lo, hi, rfl, hs, few, hlo, hhi, hw, hn⟩, k⟩ := h
    have hs : SqL K H a (xs.map V.str) := hs
    refine ⟨_, (pss_cons (ps_if (PW.pt (pw_or (pt_not (pt_chain op_le op_le (pv 1) (pe_callB (r := rLenA K) call_len (by rfl) T.len (by decide +kernel) (pa_cons (pv 0) pa_nil)) (pv 2))) (pw_or1 (pt_not (pt_val (pe_callB (r := rAll K) (cr_all rfl) (by rfl) T.all (by decide +kernel) (pa_cons (pe_lc (own := [("value", 3)]) rfl sc_are_words.nd (show PI _ _ _ (iList K _) from pi_list (pv 0)) (blkOk_by (own := [("value", 3)]) (N := ["values", "least", "most", "value"]) (sc := defScope s_are_words) (by decide +kernel)) (fun _ _ _ _ _ => (pg_name (i := 3) sc_are_words.nd rfl (Or.inl rfl))) (fun _ _ _ _ _ => pts_nil) (fun _ _ _ _ _ => (pcl G_is_word hr (pa_cons (pv 3) pa_nil)))) pa_nil))))))) pss_never pss_nil)
  (pss_one (ps_ret (pe_cmpR op_eq (pe_callB call_lenTxs (by rfl) T.len (by decide +kernel) (pa_cons (pe_callTy (r := rSetS K P w) (cr_setS rfl) (by rfl) T.set (by decide +kernel) (pa_cons (pv 0) pa_nil)) pa_nil)) (pe_callB (r := rLenA K) call_len (by rfl) T.len (by decide +kernel) (pa_cons (pv 0) pa_nil)) (nomark _))))), ?_⟩
    refine Evl.q_when (b := false) (Evl.et_or (a := false) (b := false) (Evl.et_not (a := true) (Evl.et_test ?_)) fun _ => Evl.et_not (a := true) (Evl.et_B (ev_allT (el_lcA (Evl.ev_var rfl) hs (by rw [List.length_map]; omega) (fun _ => rfl) fun i x hx H2 e2 => ?_)))) (fun h => nomatch h) fun _ H1 e1 => Evl.s_ret (Evl.ev_is (Evl.ev_op (ev_lenSet (Evl.ev_var rfl) (.inl (Evl.ex_l e1 hs)) few) (ev_lenL (Evl.ev_var rfl) (.inl (Evl.ex_l e1 hs))) (Evl.rv_eq rfl)) ?_) fun H2 e2 => k H2 (e1.trans e2)
    · refine Evl.ev_is (ev_chain (Evl.ev_var rfl) (ev_lenL (Evl.ev_var rfl) (.inl hs)) (Evl.ev_var rfl) Evl.rv_I0 Evl.rv_I0) ?_
      rw [List.length_map, decide_eq_true hlo, decide_eq_true hhi]; rfl
    · obtain ⟨z, hz, rfl⟩ : ∃ z, xs[i]? = some z ∧ x = .str z := by
        rw [List.getElem?_map] at hx
        cases e : xs[i]? with
        | none => rw [e] at hx; cases hx
        | some z => rw [e] at hx; exact ⟨z, rfl, (Option.some.inj hx).symm⟩
      exact spV_ev (Evl.ea_cons (Evl.ev_var rfl) Evl.ea_nil) fun H3 _ => ⟨z, rfl, hw z (List.mem_of_getElem? hz)⟩
    · rw [met_nodup xs [] hn, List.length_map]; simp
theorem okF_are_wordsT (T : Txt K mg C_Shape) (R : Prg K mg C_Shape) {f : Addr} {fd : FuncData} (at_ : mg "are_words" = some (.ref f)) (F : Fun K "are_words" "are_words" s_are_words f fd) (kp : PySem.W.keepIn K (.ref f) = true) : Fn P w K mg base "are_words" 2 ["values", "least", "most"] (spV (.bl true) (preWords true K)) f fd := by
  obtain ⟨_, _, G_is_word⟩ := ok_is_word (P := P) (w := w) (base := base) T R
  refine ⟨F.ok sc_are_words (fun vs H Q E h => ?_) (fun cdv A outer s H vs Q E hr h => ?_), at_, kp, F.binds (fun _ _ _ _ _ _ us hl => match us, hl with | [_, _, _], _ => rfl)⟩
  · obtain ⟨⟨a, xs, lo, hi, rfl, _⟩, _⟩ := h; rfl
  · obtain ⟨⟨a, xs, lo, hi, rfl, hs, few, hlo, hhi, hw, hn⟩, k⟩ := h
    have hs : SqT K H a (xs.map V.str) := hs
    refine ⟨_, (pss_cons (ps_if (PW.pt (pw_or (pt_not (pt_chain op_le op_le (pv 1) (pe_callB (r := rLenA K) call_len (by rfl) T.len (by decide +kernel) (pa_cons (pv 0) pa_nil)) (pv 2))) (pw_or1 (pt_not (pt_val (pe_callB (r := rAll K) (cr_all rfl) (by rfl) T.all (by decide +kernel) (pa_cons (pe_lc (own := [("value", 3)]) rfl sc_are_words.nd (show PI _ _ _ (iTup K _) from pi_tup (pv 0)) (blkOk_by (own := [("value", 3)]) (N := ["values", "least", "most", "value"]) (sc := defScope s_are_words) (by decide +kernel)) (fun _ _ _ _ _ => (pg_name (i := 3) sc_are_words.nd rfl (Or.inl rfl))) (fun _ _ _ _ _ => pts_nil) (fun _ _ _ _ _ => (pcl G_is_word hr (pa_cons (pv 3) pa_nil)))) pa_nil))))))) pss_never pss_nil)
  (pss_one (ps_ret (pe_cmpR op_eq (pe_callB call_lenTxs (by rfl) T.len (by decide +kernel) (pa_cons (pe_callTy (r := rSetS K P w) (cr_setS rfl) (by rfl) T.set (by decide +kernel) (pa_cons (pv 0) pa_nil)) pa_nil)) (pe_callB (r := rLenA K) call_len (by rfl) T.len (by decide +kernel) (pa_cons (pv 0) pa_nil)) (nomark _))))), ?_⟩
    refine Evl.q_when (b := false) (Evl.et_or (a := false) (b := false) (Evl.et_not (a := true) (Evl.et_test ?_)) fun _ => Evl.et_not (a := true) (Evl.et_B (ev_allT (el_lcT (Evl.ev_var rfl) hs (by rw [List.length_map]; omega) (fun _ => rfl) fun i x hx H2 e2 => ?_)))) (fun h => nomatch h) fun _ H1 e1 => Evl.s_ret (Evl.ev_is (Evl.ev_op (ev_lenSet (Evl.ev_var rfl) (.inr (Evl.ex_t e1 hs)) few) (ev_lenL (Evl.ev_var rfl) (.inr (Evl.ex_t e1 hs))) (Evl.rv_eq rfl)) ?_) fun H2 e2 => k H2 (e1.trans e2)
    · refine Evl.ev_is (ev_chain (Evl.ev_var rfl) (ev_lenL (Evl.ev_var rfl) (.inr hs)) (Evl.ev_var rfl) Evl.rv_I0 Evl.rv_I0) ?_
      rw [List.length_map, decide_eq_true hlo, decide_eq_true hhi]; rfl
    · obtain ⟨z, hz, rfl⟩ : ∃ z, xs[i]? = some z ∧ x = .str z := by
        rw [List.getElem?_map] at hx
        cases e : xs[i]? with
        | none => rw [e] at hx; cases hx
        | some z => rw [e] at hx; exact ⟨z, rfl, (Option.some.inj hx).symm⟩
      exact spV_ev (Evl.ea_cons (Evl.ev_var rfl) Evl.ea_nil) fun H3 _ => ⟨z, rfl, hw z (List.mem_of_getElem? hz)⟩
    · rw [met_nodup xs [] hn, List.length_map]; simp

theorem ok_are_wordsL (T : Txt K mg C_Shape) (R : Prg K mg C_Shape) : ∃ f fd, Fn P w K mg base "are_words" 2 ["values", "least", "most"] (spV (.bl true) (preWords false K)) f fd :=
  let ⟨_, _, at_, F, kp⟩ := R.are_words
  ⟨_, _, okF_are_wordsL T R at_ F kp⟩
theorem ok_are_wordsT (T : Txt K mg C_Shape) (R : Prg K mg C_Shape) : ∃ f fd, Fn P w K mg base "are_words" 2 ["values", "least", "most"] (spV (.bl true) (preWords true K)) f fd :=
  let ⟨_, _, at_, F, kp⟩ := R.are_words
  ⟨_, _, okF_are_wordsT T R at_ F kp⟩
/-- either -/
theorem ok_are_wordsU (T : Txt K mg C_Shape) (R : Prg K mg C_Shape) : ∃ f fd, Fn P w K mg base "are_words" 2 ["values", "least", "most"] (spV (.bl true) fun vs H => ∃ t, preWords t K vs H) f fd := by
  obtain ⟨f, fd, at_, F, kp⟩ := R.are_words
  have L := okF_are_wordsL (P := P) (w := w) (base := base) T R at_ F kp
  have G := okF_are_wordsT (P := P) (w := w) (base := base) T R at_ F kp
  refine ⟨f, fd, ⟨fun vs H Q E h => ?_, fun A outer s H args us vs Q E hr he hb hv h => ?_⟩, at_, kp, L.bd⟩
  · obtain ⟨⟨t, h⟩, k⟩ := h
    cases t with
    | true => exact G.ok.len vs H Q E ⟨h, k⟩
    | false => exact L.ok.len vs H Q E ⟨h, k⟩
  · obtain ⟨⟨t, h⟩, k⟩ := h
    cases t with
    | true => exact G.ok.run A outer s H args us vs Q E hr he hb hv ⟨h, k⟩
    | false => exact L.ok.run A outer s H args us vs Q E hr he hb hv ⟨h, k⟩

/-! ### has_names, is_named -/
def preNames (K : PySem.W.Frag) : List V → Hp → Prop := fun vs H => ∃ (v : V) (a : Addr) (n : Nat) (S : Addr → Prop) (l : List (Str × D)) (ns : List Str), vs = [v, .ref a] ∧ Rep H n S (.dic l) v ∧ SqL K H a (ns.map V.str) ∧ ns.length ≤ 1000 ∧ l.length = ns.length ∧ ∀ x ∈ ns, (l.lookup x).isSome = true
theorem ok_has_names (T : Txt K mg C_Shape) (R : Prg K mg C_Shape) : ∃ f fd, Fn P w K mg base "has_names" 1 ["value", "names"] (spV (.bl true) (preNames K)) f fd := by
  obtain ⟨f, fd, at_, F, kp⟩ := R.has_names
  refine ⟨f, fd, F.ok sc_has_names (fun vs H Q E h => ?_) (fun cdv A outer s H vs Q E hr h => ?_), at_, kp, F.binds (fun _ _ _ _ _ _ us hl => match us, hl with | [_, _], _ => rfl)⟩
  · obtain ⟨⟨v, a, n, S, l, ns, rfl, _⟩, _⟩ := h; rfl
  · obtain ⟨⟨v, a, n, S, l, ns, rfl, hv, ha, hn, hl, hk⟩, k⟩ := h
    cases n with
    | zero => exact hv.elim
    | succ n =>
    obtain ⟨d, es, rfl, _, hd, _, pr⟩ := hv
    have le : es.length = ns.length := (pair_len pr).symm.trans hl
    refine ⟨_, (pss_one (ps_ret (pe_and (pe_callB (r := rIsi K) call_isi (by rfl) T.isinstance (by decide +kernel) (pa_cons (pv 0) (pa_cons (pe_bltn (v := .ty "dict") (by rfl) T.dict boot_dict rfl) pa_nil))) (pe_and (pe_cmpR op_eq (pe_callB call_lenD (by rfl) T.len (by decide +kernel) (pa_cons (pv 0) pa_nil)) (pe_callB (r := rLenA K) call_len (by rfl) T.len (by decide +kernel) (pa_cons (pv 1) pa_nil)) (nomark _)) (pe_one (pe_callB (r := rAll K) (cr_all rfl) (by rfl) T.all (by decide +kernel) (pa_cons (pe_lc (own := [("name", 2)]) rfl sc_has_names.nd (show PI _ _ _ (iList K _) from pi_list (pv 1)) (blkOk_by (own := [("name", 2)]) (N := ["value", "names", "name"]) (sc := defScope s_has_names) (by decide +kernel)) (fun _ _ _ _ _ => (pg_name (i := 2) sc_has_names.nd rfl (Or.inl rfl))) (fun _ _ _ _ _ => pts_nil) (fun _ _ _ _ _ => (pe_cmp (pc_din (hu_of hr) (pv 2) (pv 0)) rfl))) pa_nil))))))), ?_⟩
    refine Evl.s_ret (Evl.ev_is (Evl.ev_andV (a := true) (b := true) (ev_isi (Evl.ev_var rfl) (fun H1 e1 => .base (.dK (e1 _ _ hd))) (kit_ty (by decide +kernel))) fun _ => Evl.ev_is (Evl.ev_andV (a := true) (b := true) (Evl.ev_is (Evl.ev_op (ev_lenK (Evl.ev_var rfl) hd) (ev_lenL (Evl.ev_var rfl) (.inl ha)) (Evl.rv_eq rfl)) ?_) fun _ => ev_allT (el_lcA (Evl.ev_var rfl) ha (by rw [List.length_map]; omega) (fun _ => rfl) fun i x hx H2 e2 => ?_)) rfl) rfl) fun H2 e2 => k H2 e2
    · rw [List.length_map, le]; simp
    · obtain ⟨z, hz, rfl⟩ : ∃ z, ns[i]? = some z ∧ x = .str z := by
        rw [List.getElem?_map] at hx
        cases e : ns[i]? with
        | none => rw [e] at hx; cases hx
        | some z => rw [e] at hx; exact ⟨z, rfl, (Option.some.inj hx).symm⟩
      refine Evl.ev_is (ev_din (Evl.ev_var rfl) (Evl.ev_var rfl) (.inl (e2 _ _ hd))) ?_
      have q := hk z (List.mem_of_getElem? hz)
      cases e : l.lookup z with
      | none => rw [e] at q; cases q
      | some d0 =>
        obtain ⟨v0, hv0, _⟩ := pair_lk pr e
        rw [hv0]; rfl
def preNamed : List V → Hp → Prop := fun vs H => ∃ (v : V) (m : Int) (n : Nat) (S : Addr → Prop) (l : List (Str × D)), vs = [v, .int m] ∧ Rep H n S (.dic l) v ∧ (l.length : Int) ≤ m ∧ ∀ p ∈ l, isW p.1
theorem ok_is_named (T : Txt K mg C_Shape) (R : Prg K mg C_Shape) : ∃ f fd, Fn P w K mg base "is_named" 2 ["value", "most"] (spV (.bl true) preNamed) f fd := by
  obtain ⟨_, _, G_is_word⟩ := ok_is_word (P := P) (w := w) (base := base) T R
  obtain ⟨f, fd, at_, F, kp⟩ := R.is_named
  refine ⟨f, fd, F.ok sc_is_named (fun vs H Q E h => ?_) (fun cdv A outer s H vs Q E hr h => ?_), at_, kp, F.binds (fun _ _ _ _ _ _ us hl => match us, hl with | [_, _], _ => rfl)⟩
  · obtain ⟨⟨v, m, n, S, l, rfl, _⟩, _⟩ := h; rfl
  · obtain ⟨⟨v, m, n, S, l, rfl, hv, hm, hk⟩, k⟩ := h
    cases n with
    | zero => exact hv.elim
    | succ n =>
    obtain ⟨d, es, rfl, _, hd, h5, pr⟩ := hv
    have le : l.length = es.length := pair_len pr
    refine ⟨_, (pss_one (ps_ret (pe_and (pe_callB (r := rIsi K) call_isi (by rfl) T.isinstance (by decide +kernel) (pa_cons (pv 0) (pa_cons (pe_bltn (v := .ty "dict") (by rfl) T.dict boot_dict rfl) pa_nil))) (pe_and (pe_cmpR op_le (pe_callB call_lenD (by rfl) T.len (by decide +kernel) (pa_cons (pv 0) pa_nil)) (pv 1) (nomark _)) (pe_one (pe_callB (r := rAll K) (cr_all rfl) (by rfl) T.all (by decide +kernel) (pa_cons (pe_lock (pe_lc (own := [("key", 2)]) rfl sc_is_named.nd (pi_keys (pv 0)) (blkOk_by (own := [("key", 2)]) (N := ["value", "most", "key"]) (sc := defScope s_is_named) (by decide +kernel)) (fun _ _ _ _ _ => (pg_name (i := 2) sc_is_named.nd rfl (Or.inl rfl))) (fun _ _ _ _ _ => pts_nil) (fun _ _ _ _ _ => (pcl G_is_word hr (pa_cons (pv 2) pa_nil))))) pa_nil))))))), ?_⟩
    refine Evl.s_ret (Evl.ev_is (Evl.ev_andV (a := true) (b := true) (ev_isi (Evl.ev_var rfl) (fun H1 e1 => .base (.dK (e1 _ _ hd))) (kit_ty (by decide +kernel))) fun _ => Evl.ev_is (Evl.ev_andV (a := true) (b := true) (Evl.ev_is (Evl.ev_op (ev_lenK (Evl.ev_var rfl) hd) (Evl.ev_var rfl) Evl.rv_I0) ?_) fun _ => ev_allT (el_lcK (fun H1 => Evl.ev_var rfl) hd (by omega) (fun _ => rfl) fun i x v hx od H1 H2 e1 e2 => ?_)) rfl) rfl) fun H2 e2 => k H2 e2
    · rw [decide_eq_true (by omega : (es.length : Int) ≤ m)]
    · obtain ⟨p, hp, hx1, _⟩ := pair_back pr hx
      have hx1 : x = Sum.inr p.1 := hx1
      subst hx1
      exact spV_ev (Evl.ea_cons (Evl.ev_var rfl) Evl.ea_nil) fun H3 _ => ⟨p.1, rfl, hk p (List.mem_of_getElem? hp)⟩
end
end Pk

namespace Pk
open PySem PySem.Spec PyProof.Rows L2 Ssb
open Evl (Ex Ev EvT EvL EvA EvU)
/-! ### shapes as data -/
abbrev Fl := List (Str × List Str)
def flD (f : Fl) : D := .dic (f.map fun p => (p.1, .tup (p.2.map .str)))
def okFl (f : Fl) : Prop := f.length ≤ 2 ∧ (f.map (·.1)).Nodup ∧ ∀ p ∈ f, isW p.1 ∧ 2 ≤ p.2.length ∧ p.2.length ≤ 3 ∧ (∀ x ∈ p.2, isW x) ∧ p.2.Nodup
abbrev Sh := List (Str × Fl × List (Str × Fl))
def ls0 (d : D) (f : Fl) : Prop := ∃ l, d = .dic l ∧ l.length = 2 ∧ l.lookup ("fields" : Str) = some (flD f) ∧ l.lookup ("inner" : Str) = some (.dic [])
def ls1 (d : D) (f : Fl) (i : List (Str × Fl)) : Prop := ∃ l e, d = .dic l ∧ l.length = 2 ∧ l.lookup ("fields" : Str) = some (flD f) ∧ l.lookup ("inner" : Str) = some (.dic e) ∧ Paired (fun (p : Str × D) (q : Str × Fl) => p.1 = q.1 ∧ ls0 p.2 q.2) e i
def shD (d : D) (s : Sh) : Prop := ∃ l, d = .dic l ∧ Paired (fun (p : Str × D) (q : Str × Fl × List (Str × Fl)) => p.1 = q.1 ∧ ls1 p.2 q.2.1 q.2.2) l s
/-- the rows: a name, the name around it, the fields -/
abbrev Ro := Str × Option Str × Fl
def rowsOf (p : Str × Fl × List (Str × Fl)) : List Ro := (p.1, none, p.2.1) :: p.2.2.map fun q => (q.1, some p.1, q.2)
def rowsS (s : Sh) : List Ro := s.flatMap rowsOf
def okSh (s : Sh) : Prop := s.length ≤ 2 ∧ ((rowsS s).map (·.1)).Nodup ∧ ∀ p ∈ s, isW p.1 ∧ okFl p.2.1 ∧ p.2.2.length ≤ 1 ∧ ∀ q ∈ p.2.2, isW q.1 ∧ okFl q.2
def oV : Option Str → V
  | none => .non
  | some x => .str x
theorem rep_strs {H : Hp} {n : Nat} {S : Addr → Prop} : ∀ {ws : List Str} {xs : List V}, Paired (fun d x => Rep H n S d x) (ws.map D.str) xs → xs = ws.map V.str
  | [], _, .nil => rfl
  | y :: ws, _, .cons h t => by
    cases n with
    | zero => exact h.elim
    | succ n =>
    have h : _ = V.str y := h
    rw [rep_strs t, h]; rfl
theorem rep_words {H : Hp} {n : Nat} {S : Addr → Prop} {ws : List Str} {v : V} (h : Rep H n S (.tup (ws.map .str)) v) : ∃ a, v = .ref a ∧ H a = some (.tup (ws.map V.str)) := by
  cases n with
  | zero => exact h.elim
  | succ n =>
  obtain ⟨a, xs, e, ha, _, pr⟩ := h
  exact ⟨a, e, by rw [ha, rep_strs pr]⟩
/-- within a lock of d -/
theorem rep_in {H1 H2 : Hp} {n : Nat} {S : Addr → Prop} {x : D} {v : V} {d : Addr} {es : List (Key × V)} {u : HO} (hd : H1 d = some (.dK es)) (e2 : Ex (upd H1 d u) H2) (h : Rep H1 n (fun b => S b ∧ b ≠ d) x v) : Rep H2 n (fun b => S b ∧ b ≠ d) x v :=
  rep_ex e2 (rep_lock hd (fun _ z => z.2) h)
section
variable {P : Program} {w : World} {K : PySem.W.Frag} {mg : Str → Option Value} {base : Heap} {C_Shape : Addr}
def preFields : List V → Hp → Prop := fun vs H => ∃ (v : V) (n : Nat) (S : Addr → Prop) (f : Fl), vs = [v] ∧ Rep H n S (flD f) v ∧ okFl f
theorem ok_are_fields (T : Txt K mg C_Shape) (R : Prg K mg C_Shape) : ∃ f fd, Fn P w K mg base "are_fields" 3 ["fields"] (spV (.bl true) preFields) f fd := by
  obtain ⟨_, _, G_is_named⟩ := ok_is_named (P := P) (w := w) (base := base) T R
  obtain ⟨_, _, G_are_words⟩ := ok_are_wordsT (P := P) (w := w) (base := base) T R
  obtain ⟨f, fd, at_, F, kp⟩ := R.are_fields
  refine ⟨f, fd, F.ok sc_are_fields (fun vs H Q E h => ?_) (fun cdv A outer s H vs Q E hr h => ?_), at_, kp, F.binds (fun _ _ _ _ _ _ us hl => match us, hl with | [_], _ => rfl)⟩
  · obtain ⟨⟨v, n, S, f, rfl, _⟩, _⟩ := h; rfl
  · obtain ⟨⟨v, n, S, f, rfl, hv, h2, hnd, hf⟩, k⟩ := h
    cases n with
    | zero => exact hv.elim
    | succ n =>
    obtain ⟨d, es, rfl, _, hd, h5, pr⟩ := id hv
    have le : f.length = es.length := by rw [← pair_len pr, List.length_map]
    refine ⟨_, (pss_cons (ps_if (pt_not (pt_val (pcl G_is_named hr (pa_cons (pv 0) (pa_cons pe_int pa_nil))))) pss_never pss_nil)
  (pss_one (ps_ret (pe_callB (r := rAll K) (cr_all rfl) (by rfl) T.all (by decide +kernel) (pa_cons (pe_lock (pe_lc (own := [("words", 1)]) rfl sc_are_fields.nd (pi_values (pv 0)) (blkOk_by (own := [("words", 1)]) (N := ["fields", "words"]) (sc := defScope s_are_fields) (by decide +kernel)) (fun _ _ _ _ _ => (pg_name (i := 1) sc_are_fields.nd rfl (Or.inl rfl))) (fun _ _ _ _ _ => pts_nil) (fun _ _ _ _ _ => (pe_and (pe_callB (r := rIsi K) call_isi (by rfl) T.isinstance (by decide +kernel) (pa_cons (pv 1) (pa_cons (pe_bltn (v := .ty "tuple") (by rfl) T.tuple boot_tuple rfl) pa_nil))) (pe_one (pcl G_are_words hr (pa_cons (pv 1) (pa_cons pe_int (pa_cons pe_int pa_nil))))))))) pa_nil))))), ?_⟩
    refine Evl.q_when (b := false) (Evl.et_not (a := true) (Evl.et_B (spV_ev (Evl.ea_cons (Evl.ev_var rfl) (Evl.ea_cons Evl.ev_c Evl.ea_nil)) fun H1 e1 => ⟨_, 2, n + 1, S, _, rfl, rep_ex e1 hv, by rw [List.length_map]; omega, fun p hp => ?_⟩))) (fun h => nomatch h) fun _ H1 e1 => Evl.s_ret (ev_allT (el_lcV (fun _ _ _ => Evl.ev_var rfl) (e1 _ _ hd) (by omega) (fun _ => rfl) fun i x v hx od H2 H3 e2 e3 => ?_)) fun H2 e2 => k H2 (e1.trans e2)
    · obtain ⟨q, hq, rfl⟩ := List.mem_map.mp hp
      exact (hf q hq).1
    · obtain ⟨p, hp, _, hr1⟩ := pair_back pr hx
      rw [List.getElem?_map] at hp
      cases ef : f[i]? with
      | none => rw [ef] at hp; cases hp
      | some q =>
        rw [ef] at hp
        cases hp
        obtain ⟨_, ha2, ha3, hw, hn⟩ := hf q (List.mem_of_getElem? ef)
        obtain ⟨a, rfl, ha⟩ := rep_words (rep_in ((e1.trans e2) _ _ hd) e3 (rep_ex (e1.trans e2) hr1))
        exact Evl.ev_is (Evl.ev_andV (a := true) (b := true) (ev_isi (Evl.ev_var rfl) (fun H4 e4 => .base (.tup (e4 _ _ ha))) (kit_ty (by decide +kernel))) fun _ => spV_ev (Evl.ea_cons (Evl.ev_var rfl) (Evl.ea_cons Evl.ev_c (Evl.ea_cons Evl.ev_c Evl.ea_nil))) fun H4 e4 => ⟨a, q.2, 2, 3, rfl, Evl.st_of (e4 _ _ ha), by omega, by omega, by omega, hw, hn⟩) rfl
def preLs : List V → Hp → Prop := fun vs H => ∃ (v : V) (m : Int) (n : Nat) (S : Addr → Prop) (l : List (Str × D)), vs = [v, .int m] ∧ Rep H n S (.dic l) v ∧ (l.length : Int) ≤ m ∧ ∀ p ∈ l, isW p.1 ∧ ∃ l', p.2 = .dic l' ∧ l'.length = 2 ∧ (l'.lookup ("fields" : Str)).isSome = true ∧ (l'.lookup ("inner" : Str)).isSome = true
theorem ok_are_list_shapes (T : Txt K mg C_Shape) (R : Prg K mg C_Shape) : ∃ f fd, Fn P w K mg base "are_list_shapes" 3 ["lists", "most"] (spV (.bl true) preLs) f fd := by
  obtain ⟨_, _, G_is_named⟩ := ok_is_named (P := P) (w := w) (base := base) T R
  obtain ⟨_, _, G_has_names⟩ := ok_has_names (P := P) (w := w) (base := base) T R
  obtain ⟨f, fd, at_, F, kp⟩ := R.are_list_shapes
  refine ⟨f, fd, F.ok sc_are_list_shapes (fun vs H Q E h => ?_) (fun cdv A outer s H vs Q E hr h => ?_), at_, kp, F.binds (fun _ _ _ _ _ _ us hl => match us, hl with | [_, _], _ => rfl)⟩
  · obtain ⟨⟨v, m, n, S, l, rfl, _⟩, _⟩ := h; rfl
  · obtain ⟨⟨v, m, n, S, l, rfl, hv, hm, hl⟩, k⟩ := h
    cases n with
    | zero => exact hv.elim
    | succ n =>
    obtain ⟨d, es, rfl, _, hd, h5, pr⟩ := id hv
    have le : l.length = es.length := pair_len pr
    refine ⟨_, (pss_cons (ps_if (pt_not (pt_val (pcl G_is_named hr (pa_cons (pv 0) (pa_cons (pv 1) pa_nil))))) pss_never pss_nil)
  (pss_one (ps_ret (pe_callB (r := rAll K) (cr_all rfl) (by rfl) T.all (by decide +kernel) (pa_cons (pe_lock (pe_lc (own := [("one", 2)]) rfl sc_are_list_shapes.nd (pi_values (pv 0)) (blkOk_by (own := [("one", 2)]) (N := ["lists", "most", "one"]) (sc := defScope s_are_list_shapes) (by decide +kernel)) (fun _ _ _ _ _ => (pg_name (i := 2) sc_are_list_shapes.nd rfl (Or.inl rfl))) (fun _ _ _ _ _ => pts_nil) (fun _ _ _ _ _ => (pcl G_has_names hr (pa_cons (pv 2) (pa_cons (pe_lst (pa_cons pe_str (pa_cons pe_str pa_nil))) pa_nil)))))) pa_nil))))), ?_⟩
    refine Evl.q_when (b := false) (Evl.et_not (a := true) (Evl.et_B (spV_ev (Evl.ea_cons (Evl.ev_var rfl) (Evl.ea_cons (Evl.ev_var rfl) Evl.ea_nil)) fun H1 e1 => ⟨_, m, n + 1, S, l, rfl, rep_ex e1 hv, hm, fun p hp => (hl p hp).1⟩))) (fun h => nomatch h) fun _ H1 e1 => Evl.s_ret (ev_allT (el_lcV (fun _ _ _ => Evl.ev_var rfl) (e1 _ _ hd) (by omega) (fun _ => rfl) fun i x v hx od H2 H3 e2 e3 => ?_)) fun H2 e2 => k H2 (e1.trans e2)
    obtain ⟨p, hp, _, hr1⟩ := pair_back pr hx
    obtain ⟨_, l', e', hl', hf', hi'⟩ := hl p (List.mem_of_getElem? hp)
    rw [e'] at hr1
    refine ev_fnL (Evl.ev_var rfl) (Evl.el_lst (Evl.ea_cons Evl.ev_c (Evl.ea_cons Evl.ev_c Evl.ea_nil)) (by decide)) fun a H4 e4 ha Q q => ⟨⟨v, a, n, _, l', ["fields", "inner"], rfl, rep_ex e4 (rep_in ((e1.trans e2) _ _ hd) e3 (rep_ex (e1.trans e2) hr1)), Evl.sq_of ha, by decide, hl', fun z hz => ?_⟩, q⟩
    rcases List.mem_cons.mp hz with rfl | hz
    · exact hf'
    · rw [List.mem_singleton.mp hz]; exact hi'
theorem ls0_in {l : List (Str × D)} {i : List (Str × Fl)} (pr : Paired (fun (p : Str × D) (q : Str × Fl) => p.1 = q.1 ∧ ls0 p.2 q.2) l i) (hw : ∀ q ∈ i, isW q.1) : ∀ p ∈ l, isW p.1 ∧ ∃ l', p.2 = .dic l' ∧ l'.length = 2 ∧ (l'.lookup ("fields" : Str)).isSome = true ∧ (l'.lookup ("inner" : Str)).isSome = true := fun p hp => by
  obtain ⟨j, hj, ej⟩ := List.mem_iff_getElem.mp hp
  obtain ⟨q, hq, e1, l', e2, h2, h3, h4⟩ := pair_at pr (i := j) (a := p) (by rw [← ej]; exact List.getElem?_eq_getElem hj)
  exact ⟨e1 ▸ hw q (List.mem_of_getElem? hq), l', e2, h2, by rw [h3]; rfl, by rw [h4]; rfl⟩
theorem ls1_in {l : List (Str × D)} {s : Sh} (pr : Paired (fun (p : Str × D) (q : Str × Fl × List (Str × Fl)) => p.1 = q.1 ∧ ls1 p.2 q.2.1 q.2.2) l s) (hw : ∀ q ∈ s, isW q.1) : ∀ p ∈ l, isW p.1 ∧ ∃ l', p.2 = .dic l' ∧ l'.length = 2 ∧ (l'.lookup ("fields" : Str)).isSome = true ∧ (l'.lookup ("inner" : Str)).isSome = true := fun p hp => by
  obtain ⟨j, hj, ej⟩ := List.mem_iff_getElem.mp hp
  obtain ⟨q, hq, e1, l', e, e2, h2, h3, h4, _⟩ := pair_at pr (i := j) (a := p) (by rw [← ej]; exact List.getElem?_eq_getElem hj)
  exact ⟨e1 ▸ hw q (List.mem_of_getElem? hq), l', e2, h2, by rw [h3]; rfl, by rw [h4]; rfl⟩
/-- an entry of a dict of data -/
theorem rep_entry {H : Hp} {n : Nat} {S : Addr → Prop} {l : List (Str × D)} {k : Str} {d : D} {a : Addr} {es : List (Key × V)} (pr : Paired (fun (q : Str × D) (e : Key × V) => e.1 = Sum.inr q.1 ∧ Rep H n (fun b => S b ∧ b ≠ a) q.2 e.2) l es) (hk : l.lookup k = some d) :
    ∃ v, valV es (Sum.inr k : Key) = some v ∧ Rep H n (fun b => S b ∧ b ≠ a) d v := pair_lk (F := fun d v => Rep H n (fun b => S b ∧ b ≠ a) d v) pr hk
def preLists : List V → Hp → Prop := fun vs H => ∃ (v : V) (n : Nat) (S : Addr → Prop) (d : D) (s : Sh), vs = [v] ∧ Rep H n S d v ∧ shD d s ∧ okSh s
theorem ok_are_lists (T : Txt K mg C_Shape) (R : Prg K mg C_Shape) : ∃ f fd, Fn P w K mg base "are_lists" 4 ["lists"] (spV (.bl true) preLists) f fd := by
  obtain ⟨_, _, G_are_list_shapes⟩ := ok_are_list_shapes (P := P) (w := w) (base := base) T R
  obtain ⟨f, fd, at_, F, kp⟩ := R.are_lists
  refine ⟨f, fd, F.ok sc_are_lists (fun vs H Q E h => ?_) (fun cdv A outer s H vs Q E hr h => ?_), at_, kp, F.binds (fun _ _ _ _ _ _ us hl => match us, hl with | [_], _ => rfl)⟩
  · obtain ⟨⟨v, n, S, d, s, rfl, _⟩, _⟩ := h; rfl
  · obtain ⟨⟨v, n, S, _, z, rfl, hv, ⟨l, rfl, ps⟩, hz2, hznd, hz⟩, k⟩ := h
    cases n with
    | zero => exact hv.elim
    | succ n =>
    obtain ⟨d, es, rfl, _, hd, h5, pr⟩ := id hv
    have le : l.length = es.length := pair_len pr
    have lz : l.length = z.length := pair_len ps
    refine ⟨_, (pss_cons (ps_if (pt_not (pt_val (pcl G_are_list_shapes hr (pa_cons (pv 0) (pa_cons pe_int pa_nil))))) pss_never pss_nil)
  (pss_cons (ps_lock (ps_for PassesOwn.never rfl (pi_values (pv 0)) (pg_name (i := 1) sc_are_lists.nd rfl (Or.inl rfl))
    (pss_cons (ps_if (pt_not (pt_val (pcl G_are_list_shapes hr (pa_cons (pe_dget (hu_of hr) (pv 1) pe_str (fun _ _ => rfl)) (pa_cons pe_int pa_nil))))) pss_never pss_nil)
  (pss_one (ps_if (pt_not (pt_val (pe_callB (r := rAll K) (cr_all rfl) (by rfl) T.all (by decide +kernel) (pa_cons (pe_lock (pe_lc (own := [("inner", 2)]) rfl sc_are_lists.nd (pi_values (pe_dget (hu_of hr) (pv 1) pe_str (fun _ _ => rfl))) (blkOk_by (own := [("inner", 2)]) (N := ["lists", "outer", "inner"]) (sc := defScope s_are_lists) (by decide +kernel)) (fun _ _ _ _ _ => (pg_name (i := 2) sc_are_lists.nd rfl (Or.inl rfl))) (fun _ _ _ _ _ => pts_nil) (fun _ _ _ _ _ => (pcl G_are_list_shapes hr (pa_cons (pe_dget (hu_of hr) (pv 2) pe_str (fun _ _ => rfl)) (pa_cons pe_int pa_nil)))))) pa_nil)))) pss_never pss_nil)))))
  (pss_one (ps_ret pe_bl)))), ?_⟩
    refine Evl.q_when (b := false) (Evl.et_not (a := true) (Evl.et_B (spV_ev (Evl.ea_cons (Evl.ev_var rfl) (Evl.ea_cons Evl.ev_c Evl.ea_nil)) fun H1 e1 => ⟨_, 2, n + 1, S, l, rfl, rep_ex e1 hv, by omega, ls1_in ps fun q hq => (hz q hq).1⟩))) (fun h => nomatch h) fun _ H1 e1 => ?_
    have hd1 := e1 _ _ hd
    refine for_lock (J := fun od => Itd d od es) (xs := fun _ => none) hd1 (fun od R r => ⟨_, rfl, d, od, es, rfl, upd_same, r⟩) (fun od => walk_values) (fun od i σ' H' => ∃ o1, σ' = [some (.ref d), o1, none] ∧ Ex (upd H1 d (.frz od (.dK es))) H') (fun od => ⟨_, rfl, Ex.refl _⟩) (fun od i σ' H' _ ⟨_, _, e⟩ => e _ _ upd_same) (fun od i x σ' H' H2 hi ⟨o1, eσ, e⟩ y => ?_) fun od σ' H' ⟨_, _, e⟩ => k _ (e1.trans (unlock hd1 e))
    subst eσ
    obtain ⟨rfl, key, hx⟩ := y
    obtain ⟨p, hp, _, hr1⟩ := pair_back pr hx
    obtain ⟨q, hq, _, l1, e', ep, _, _, hin, pi⟩ := pair_at ps hp
    obtain ⟨_, _, hq1, hqw⟩ := hz q (List.mem_of_getElem? hq)
    rw [ep] at hr1
    have hr2 := rep_in hd1 e (rep_ex e1 hr1)
    cases n with
    | zero => exact hr2.elim
    | succ n =>
    obtain ⟨de, ee, rfl, ⟨_, nde⟩, hde, _, pe⟩ := id hr2
    obtain ⟨vi, hvi, hri⟩ := rep_entry pe hin
    refine Evl.q_when (b := false) (Evl.et_not (a := true) (Evl.et_B (spV_ev (Evl.ea_cons (ev_get (Evl.ev_var rfl) Evl.ev_c (.inl hde) hvi) (Evl.ea_cons Evl.ev_c Evl.ea_nil)) fun H4 e4 => ⟨_, 1, n, _, e', rfl, rep_ex e4 hri, by rw [pair_len pi]; omega, ls0_in pi fun q' hq' => (hqw q' hq').1⟩))) (fun h => nomatch h) fun _ H4 e4 => ?_
    cases n with
    | zero => exact hri.elim
    | succ n =>
    obtain ⟨di, ei, rfl, ⟨_, ndi⟩, hdi, hl5, pri⟩ := id hri
    have le' := pair_len pri
    refine Evl.s_when (b := false) (Evl.et_not (a := true) (Evl.et_B (ev_allT (el_lcV (fun H5 e5 od' => ?_) (e4 _ _ hdi) (by omega) (fun _ => rfl) fun i' x' v' hx' od' H5 H6 e5 e6 => ?_)))) (fun h => nomatch h) fun _ H5 e5 => ⟨_, rfl, e.trans (e4.trans e5)⟩
    · exact ev_get (Evl.ev_var rfl) Evl.ev_c (.inl (by rw [upd_ne ndi.symm]; exact (e4.trans e5) _ _ hde)) hvi
    · obtain ⟨p', hp', _, hr'⟩ := pair_back pri hx'
      obtain ⟨q', hq', _, l2, ep2, _, _, hin2⟩ := pair_at pi hp'
      rw [ep2] at hr'
      have hr3 := rep_in ((e4.trans e5) _ _ hdi) e6 (rep_ex (e4.trans e5) hr')
      cases n with
      | zero => exact hr3.elim
      | succ n =>
      obtain ⟨dj, ej, rfl, _, hdj, _, pj⟩ := id hr3
      obtain ⟨vj, hvj, hrj⟩ := rep_entry pj hin2
      exact spV_ev (Evl.ea_cons (ev_get (Evl.ev_var rfl) Evl.ev_c (.inl hdj) hvj) (Evl.ea_cons Evl.ev_c Evl.ea_nil)) fun H7 e7 => ⟨_, 0, n, _, [], rfl, rep_ex e7 hrj, by decide, fun _ hm => nomatch hm⟩
end
end Pk

namespace Pk
open PySem PySem.Spec PyProof.Rows L2 Ssb
open Evl (Ex Ev EvT EvL EvA EvU)
/-- a row's tuple at H', its fields as they stand at H -/
def RowAt (H H' : Hp) (n : Nat) (S : Addr → Prop) (r : Ro) (x : V) : Prop := ∃ a fv, x = .ref a ∧ H' a = some (.tup [.str r.1, oV r.2.1, fv]) ∧ Rep H n S (flD r.2.2) fv
theorem rowAt_to {H H' H2 : Hp} {n : Nat} {S : Addr → Prop} {r : Ro} {x : V} (k : ∀ a xs, H' a = some (.tup xs) → H2 a = some (.tup xs)) (h : RowAt H H' n S r x) : RowAt H H2 n S r x := by
  obtain ⟨a, fv, e, ha, hr⟩ := h; exact ⟨a, fv, e, k a _ ha, hr⟩
theorem ex_tup {H H' : Hp} (e : Ex H H') : ∀ a xs, H a = some (.tup xs) → H' a = some (.tup xs) := fun a xs h => e a _ h
theorem upd_tup {H : Hp} {d : Addr} {o u : HO} (hd : H d = some o) (no : ∀ xs, o ≠ .tup xs) : ∀ a xs, H a = some (.tup xs) → (upd H d u) a = some (.tup xs) := fun a xs h => by
  by_cases e : a = d
  · subst e; rw [hd] at h; exact absurd (Option.some.inj h) (no xs)
  · rw [upd_ne e]; exact h
section
variable {P : Program} {w : World} {K : PySem.W.Frag} {mg : Str → Option Value} {base : Heap} {C_Shape : Addr}
def spRows : Sp := fun vs H Q _ => ∃ (v : V) (n : Nat) (S : Addr → Prop) (d : D) (s : Sh), vs = [v] ∧ Rep H n S d v ∧ shD d s ∧ okSh s ∧
  ∀ H' p xs, Ex H H' → H p = none → H' p = some (.lst xs) → Paired (RowAt H H' n S) (rowsS s) xs → Q (.ref p) H'
theorem ok_list_rows (T : Txt K mg C_Shape) (R : Prg K mg C_Shape) : ∃ f fd, Fn P w K mg base "list_rows" 1 ["lists"] spRows f fd := by
  obtain ⟨f, fd, at_, F, kp⟩ := R.list_rows
  refine ⟨f, fd, F.ok sc_list_rows (fun vs H Q E h => ?_) (fun cdv A outer s H vs Q E hr h => ?_), at_, kp, F.binds (fun _ _ _ _ _ _ us hl => match us, hl with | [_], _ => rfl)⟩
  · obtain ⟨v, n, S, d, s, rfl, _⟩ := h; rfl
  · obtain ⟨v, n0, S, _, z, rfl, hv, ⟨l, rfl, ps⟩, ⟨hz2, hznd, hz⟩, k⟩ := h
    cases n0 with
    | zero => exact hv.elim
    | succ n =>
    obtain ⟨d, es, rfl, _, hd, h5, pr⟩ := id hv
    have le : l.length = es.length := pair_len pr
    have lz : l.length = z.length := pair_len ps
    refine ⟨_, (pss_cons (ps_set (i := 1) sc_list_rows.nd rfl (Or.inl rfl) (pe_lst pa_nil))
  (pss_cons (ps_lock (ps_for PassesOwn.never rfl (pi_items (pv 0)) (show PG _ _ (gTup K 2 _) from pg_tup (n := 2) rfl (pgs_cons (pg_name (i := 2) sc_list_rows.nd rfl (Or.inl rfl)) (pgs_cons (pg_name (i := 3) sc_list_rows.nd rfl (Or.inl rfl)) pgs_nil)))
    (pss_cons (ps_expr (show PE _ _ (tBM K _ _ _ _) from pe_bm PySem.F.plainAttrs_list PySem.F.slot_list_append PySem.F.type_list_append mt_append (pv 1) (pa_cons (pe_tup (pa_cons (pv 2) (pa_cons pe_non (pa_cons (pe_dget (hu_of hr) (pv 3) pe_str (fun _ _ => rfl)) pa_nil)))) pa_nil)))
  (pss_one (ps_lock (ps_for PassesOwn.never rfl (pi_items (pe_dget (hu_of hr) (pv 3) pe_str (fun _ _ => rfl))) (show PG _ _ (gTup K 2 _) from pg_tup (n := 2) rfl (pgs_cons (pg_name (i := 4) sc_list_rows.nd rfl (Or.inl rfl)) (pgs_cons (pg_name (i := 5) sc_list_rows.nd rfl (Or.inl rfl)) pgs_nil)))
    (pss_one (ps_expr (show PE _ _ (tBM K _ _ _ _) from pe_bm PySem.F.plainAttrs_list PySem.F.slot_list_append PySem.F.type_list_append mt_append (pv 1) (pa_cons (pe_tup (pa_cons (pv 4) (pa_cons (pv 2) (pa_cons (pe_dget (hu_of hr) (pv 5) pe_str (fun _ _ => rfl)) pa_nil)))) pa_nil))))))))))
  (pss_one (ps_ret (pv 1))))), ?_⟩
    refine Evl.q_asgL (Evl.el_lst Evl.ea_nil (by decide)) fun r H1 hr0 e1 hr1 => ?_
    have hd1 := e1 _ _ hd
    have ndr : r ≠ d := fun e => by rw [e, hd] at hr0; cases hr0
    refine for_lock (J := fun od => Iti d od es) (xs := fun _ => none) hd1 (fun od G g => ⟨_, rfl, d, od, es, rfl, upd_same, g⟩) (fun od => walk_items)
      (fun od i σ' H' => ∃ x2 x3 x4 x5 acc, σ' = [some (.ref d), some (.ref r), x2, x3, x4, x5] ∧ Ex (upd H d (.frz od (.dK es))) H' ∧ H' r = some (.lst acc) ∧ acc.length ≤ 2 * i ∧ Paired (RowAt H H' (n + 1) S) (rowsS (z.take i)) acc)
      (fun od => ⟨_, _, _, _, [], rfl, fun a o ha => ?_, by rw [upd_ne ndr]; exact hr1, Nat.zero_le _, .nil⟩) (fun od i σ' H' _ ⟨_, _, _, _, _, _, e, _⟩ => e _ _ upd_same) (fun od i x σ' H' H2 hi ⟨x2, x3, x4, x5, acc, eσ, e, hacc, hlen, hrows⟩ y => ?_) fun od σ' H' ⟨x2, x3, x4, x5, acc, eσ, e, hacc, hlen, hrows⟩ => ?_
    · by_cases ed : a = d
      · subst ed; rw [upd_same] at ha ⊢; exact ha
      · rw [upd_ne ed] at ha ⊢; exact e1 a o ha
    · subst eσ
      obtain ⟨Tp, x1, v1, rfl, nT, rfl, hx1, hv1⟩ := y
      have hx1 : Option.map (fun kv : Key × V => kV kv.1) es[i]? = some x1 := hx1
      have hv1 : Option.map Prod.snd es[i]? = some v1 := hv1
      cases hes : es[i]? with
      | none => rw [hes] at hx1; cases hx1
      | some kv =>
      rw [hes] at hx1 hv1
      obtain ⟨key, vv⟩ := kv
      obtain ⟨p, hp, hk1, hr2⟩ := pair_back pr hes
      obtain ⟨q, hq, ek, l1, e', ep, _, hfl, hin, pi⟩ := pair_at ps hp
      obtain ⟨_, _, hq1, hqw⟩ := hz q (List.mem_of_getElem? hq)
      have hk1 : key = Sum.inr p.1 := hk1
      have ex1 : x1 = .str q.1 := by rw [← ek, ← Option.some.inj hx1, hk1]; rfl
      have ev1 : vv = v1 := Option.some.inj hv1
      subst ex1; subst ev1
      rw [ep] at hr2
      cases n with
      | zero => exact hr2.elim
      | succ n =>
      obtain ⟨de, ee, hde0, ⟨_, nde⟩, hde, _, pe⟩ := id hr2
      have hde0 : vv = .ref de := hde0
      subst hde0
      obtain ⟨vf, hvf, hrf⟩ := rep_entry pe hfl
      obtain ⟨vi, hvi, hri⟩ := rep_entry pe hin
      have step : ∀ {Hx : Hp}, Ex H' Hx → ∀ {a : Addr} {o : HO}, H a = some o → a ≠ d → Hx a = some o := fun ex a o ha hne => ex a o (e a o (by rw [upd_ne hne]; exact ha))
      have nTr : Tp ≠ r := fun z => by rw [z, hacc] at nT; cases nT
      refine ⟨Tp, [.str q.1, .ref de], rfl, Evl.st_of upd_same, rfl, _, _, rfl, _, _, rfl, rfl, ?_⟩
      have eT : Ex H' (upd H' Tp (.tup [.str q.1, .ref de])) := Ex.new nT
      refine Evl.q_appU (l := r) (eT _ _ hacc) (Evl.ev_var rfl) (Evl.eu_tup (Evl.ea_cons (Evl.ev_var rfl) (Evl.ea_cons Evl.ev_c (Evl.ea_cons (ev_get (Evl.ev_var rfl) Evl.ev_c (.inl (step eT hde nde)) hvf) Evl.ea_nil))) (by show 3 ≤ 100000; decide)) (by omega) fun tp H3 htp0 e3 htp => ?_
      have htr : tp ≠ r := fun z => by rw [z, eT _ _ hacc] at htp0; cases htp0
      have er0 : H r = none := hr0
      cases n with
      | zero => exact hri.elim
      | succ n =>
      obtain ⟨di, ei, hdi0, ⟨⟨_, ndi⟩, ndie⟩, hdi, hl5, pri⟩ := id hri
      have ndir : di ≠ r := fun z => by rw [z, er0] at hdi; cases hdi
      subst hdi0
      -- the heap behind the first append
      have e4 : Ex (upd H d (.frz od (.dK es))) (upd H3 r (.lst (acc ++ [.ref tp]))) := by
        refine Ex.mut (e.trans (eT.trans e3)) ?_
        rw [upd_ne ndr]; exact er0
      have hdi4 : (upd H3 r (.lst (acc ++ [.ref tp]))) di = some (.dK ei) := e4 _ _ (by rw [upd_ne ndi]; exact hdi)
      have hde4 : (upd H3 r (.lst (acc ++ [.ref tp]))) de = some (.dK ee) := e4 _ _ (by rw [upd_ne nde]; exact hde)
      have rows4 : Paired (RowAt H (upd H3 r (.lst (acc ++ [.ref tp]))) (n + 1 + 1 + 1) S) (rowsS (z.take i) ++ [(q.1, none, q.2.1)]) (acc ++ [.ref tp]) := by
        have tt : ∀ a xs, H3 a = some (.tup xs) → (upd H3 r (.lst (acc ++ [.ref tp]))) a = some (.tup xs) := upd_tup (e3 _ _ (eT _ _ hacc)) (fun xs h => nomatch h)
        refine pair_snoc (pair_imp hrows fun a b h => rowAt_to (fun a xs h => tt a xs (e3 _ _ (eT _ _ h))) h) ⟨tp, vf, rfl, tt _ _ htp, rep_up (rep_up (rep_S (fun b hb => hb.1.1) hrf))⟩
      have lei := pair_len pri
      have lepi := pair_len pi
      refine for_lock (J := fun od2 => Iti di od2 ei) (xs := fun _ => none) hdi4 (fun od2 G g => ⟨.ref de, rfl, de, .ref di, rfl, .inl ⟨ee, Sum.inr "inner", .inl (by rw [upd_ne ndie.symm]; exact hde4), rfl, hvi.symm⟩, di, od2, ei, rfl, upd_same, g⟩) (fun od2 => walk_items)
        (fun od2 j σ' H5 => ∃ y4 y5 acc2, σ' = [some (.ref d), some (.ref r), some (.str q.1), some (.ref de), y4, y5] ∧ Ex (upd (upd H d (.frz od (.dK es))) di (.frz od2 (.dK ei))) H5 ∧ H5 r = some (.lst acc2) ∧ acc2.length ≤ 2 * i + 1 + j ∧ Paired (RowAt H H5 (n + 1 + 1 + 1) S) (rowsS (z.take i) ++ (q.1, none, q.2.1) :: (q.2.2.take j).map fun g => (g.1, some q.1, g.2)) acc2)
        (fun od2 => ?_) (fun od2 j σ' H5 _ ⟨_, _, _, _, e5, _⟩ => e5 _ _ upd_same) (fun od2 j x σ' H5 H6 hj ⟨y4, y5, acc2, eσ, e5, hacc2, hlen2, hrows2⟩ y => ?_) fun od2 σ' H5 ⟨y4, y5, acc2, eσ, e5, hacc2, hlen2, hrows2⟩ => ?_
      · -- ahead of the inner loop
        refine ⟨_, _, acc ++ [.ref tp], rfl, fun a o ha => ?_, by rw [upd_ne ndir.symm, upd_same], by rw [List.length_append, List.length_singleton]; omega, pair_imp rows4 fun a b h => rowAt_to (upd_tup hdi4 (fun xs h => nomatch h)) h⟩
        by_cases ed : a = di
        · subst ed; rw [upd_same] at ha ⊢; exact ha
        · rw [upd_ne ed] at ha ⊢; exact e4 a o ha
      · -- a turn of the inner loop
        subst eσ
        obtain ⟨Tq, x1, v1, rfl, nT2, rfl, hx1, hv1⟩ := y
        have hx1 : Option.map (fun kv : Key × V => kV kv.1) ei[j]? = some x1 := hx1
        have hv1 : Option.map Prod.snd ei[j]? = some v1 := hv1
        cases hei : ei[j]? with
        | none => rw [hei] at hx1; cases hx1
        | some kv =>
        rw [hei] at hx1 hv1
        obtain ⟨key, vv⟩ := kv
        obtain ⟨p2, hp2, hk2, hr3⟩ := pair_back pri hei
        obtain ⟨q2, hq2, ek2, l2, ep2, _, hfl2, _⟩ := pair_at pi hp2
        have hk2 : key = Sum.inr p2.1 := hk2
        have ex2 : x1 = .str q2.1 := by rw [← ek2, ← Option.some.inj hx1, hk2]; rfl
        have ev2 : vv = v1 := Option.some.inj hv1
        subst ex2; subst ev2
        rw [ep2] at hr3
        cases n with
        | zero => exact hr3.elim
        | succ n =>
        obtain ⟨dj, ej, hdj0, ⟨⟨⟨_, ndj⟩, ndje⟩, ndji⟩, hdj, _, pj⟩ := id hr3
        have hdj0 : vv = .ref dj := hdj0
        subst hdj0
        obtain ⟨vg, hvg, hrg⟩ := rep_entry pj hfl2
        refine ⟨Tq, [.str q2.1, .ref dj], rfl, Evl.st_of upd_same, rfl, _, _, rfl, _, _, rfl, rfl, ?_⟩
        have eT2 : Ex H5 (upd H5 Tq (.tup [.str q2.1, .ref dj])) := Ex.new nT2
        refine Evl.s_appU (l := r) (eT2 _ _ hacc2) (Evl.ev_var rfl) (Evl.eu_tup (Evl.ea_cons (Evl.ev_var rfl) (Evl.ea_cons (Evl.ev_var rfl) (Evl.ea_cons (ev_get (Evl.ev_var rfl) Evl.ev_c (.inl (eT2 _ _ (e5 _ _ (by rw [upd_ne ndji, upd_ne ndj]; exact hdj)))) hvg) Evl.ea_nil))) (by show 3 ≤ 100000; decide)) (by omega) fun tq H7 htq0 e7 htq => ?_
        have r5 : (upd (upd H d (.frz od (.dK es))) di (.frz od2 (.dK ei))) r = none := by rw [upd_ne ndir.symm, upd_ne ndr]; exact er0
        refine ⟨_, _, acc2 ++ [.ref tq], rfl, Ex.mut (e5.trans (eT2.trans e7)) r5, upd_same, by rw [List.length_append, List.length_singleton]; omega, ?_⟩
        have tt : ∀ a xs, H7 a = some (.tup xs) → (upd H7 r (.lst (acc2 ++ [.ref tq]))) a = some (.tup xs) := upd_tup (e7 _ _ (eT2 _ _ hacc2)) (fun xs h => nomatch h)
        have ej2 : (q.2.2.take (j + 1)) = q.2.2.take j ++ [q2] := by rw [List.take_add_one, hq2]; rfl
        rw [ej2, List.map_append]
        have := pair_snoc (pair_imp hrows2 fun a b h => rowAt_to (fun a xs h => tt a xs (e7 _ _ (eT2 _ _ h))) h) (a := (q2.1, some q.1, q2.2)) (b := V.ref tq) ⟨tq, vg, rfl, tt _ _ htq, rep_up (rep_up (rep_up (rep_up (rep_S (fun b hb => hb.1.1.1.1) hrg))))⟩
        rw [List.append_assoc] at this
        exact this
      · -- behind the inner loop
        subst eσ
        refine ⟨_, _, _, _, acc2, rfl, ?_, by rw [upd_ne ndir.symm]; exact hacc2, by omega, ?_⟩
        · refine Ex.trans ?_ (unlock (u := .dK ei) (u' := .frz od2 (.dK ei)) ?_ e5)
          · exact Ex.refl _
          · rw [upd_ne ndi]; exact hdi
        · have ez : rowsS (z.take (i + 1)) = rowsS (z.take i) ++ (q.1, none, q.2.1) :: (q.2.2.take ei.length).map fun g => (g.1, some q.1, g.2) := by
            rw [List.take_add_one, hq]
            have et : q.2.2.take ei.length = q.2.2 := List.take_of_length_le (by omega)
            show (z.take i ++ [q]).flatMap rowsOf = _
            rw [List.flatMap_append, et]
            simp [rowsS, rowsOf]
          rw [ez]
          have hdi5 := e5 _ _ (upd_same (H := upd H d (.frz od (.dK es))))
          exact pair_imp hrows2 fun a b h => rowAt_to (upd_tup hdi5 (fun xs h => nomatch h)) h
    · subst eσ
      refine ⟨.ref r, rfl, k _ r acc (unlock hd e) hr0 (by rw [upd_ne ndr]; exact hacc) ?_⟩
      have ez : z.take es.length = z := List.take_of_length_le (by omega)
      rw [ez] at hrows
      have hd5 := e _ _ (upd_same (H := H))
      exact pair_imp hrows fun a b h => rowAt_to (upd_tup hd5 (fun xs h => nomatch h)) h
end
end Pk

namespace Pk
open PySem PySem.Spec PyProof.Rows L2 Ssb
open Evl (Ex Ev EvT EvL EvA EvU)
theorem okSh_rows {s : Sh} (h : okSh s) : (rowsS s).length ≤ 4 ∧ ∀ r ∈ rowsS s, isW r.1 ∧ okFl r.2.2 := by
  obtain ⟨h2, _, hz⟩ := h
  refine ⟨?_, fun r hr => ?_⟩
  · have key : ∀ l : Sh, (∀ p ∈ l, p.2.2.length ≤ 1) → (rowsS l).length ≤ 2 * l.length := by
      intro l
      induction l with
      | nil => intro _; exact Nat.le_refl _
      | cons p l ih =>
        intro hl
        have i1 := ih fun q hq => hl q (List.mem_cons_of_mem _ hq)
        have i2 := hl p List.mem_cons_self
        show (rowsOf p ++ rowsS l).length ≤ 2 * (l.length + 1)
        rw [List.length_append]
        have : (rowsOf p).length = p.2.2.length + 1 := by simp [rowsOf]
        omega
    have := key s fun p hp => (hz p hp).2.2.1
    omega
  · obtain ⟨p, hp, hr⟩ := List.mem_flatMap.mp hr
    obtain ⟨w1, f1, _, hq⟩ := hz p hp
    rcases List.mem_cons.mp hr with rfl | hr
    · exact ⟨w1, f1⟩
    · obtain ⟨q, hq1, rfl⟩ := List.mem_map.mp hr
      exact hq q hq1
/-- the three parts of a row go to their slots -/
theorem row_unp {H H' : Hp} {K : PySem.W.Frag} {n : Nat} {S : Addr → Prop} {r : Ro} {x : V} {i j k : Nat} (h : RowAt H H' n S r x) :
    ∃ fv, Rep H n S (flD r.2.2) fv ∧ ∀ {vs : List Nat} {σ : L2.St} (H2 : Hp), Ex H' H2 → (∀ y1 y2 y3, wipe ((((wipe σ vs).set i y1).set j y2).set k y3) vs = wipe σ vs) → Unp (gTup K 3 (gCons (gName i) (gCons (gName j) (gCons (gName k) gNil)))) vs σ ((((wipe σ vs).set i (some (.str r.1))).set j (some (oV r.2.1))).set k (some fv)) x H2 := by
  obtain ⟨a, fv, rfl, ha, hr⟩ := h
  exact ⟨fv, hr, fun H2 e2 hw => ⟨hw _ _ _, fun Kont q => ⟨a, _, rfl, Evl.st_of (e2 _ _ ha), rfl, _, _, rfl, _, _, rfl, _, _, rfl, rfl, q⟩⟩⟩
section
variable {P : Program} {w : World} {K : PySem.W.Frag} {mg : Str → Option Value} {base : Heap} {C_Shape : Addr}
theorem isi_lt {te : TE} {σ : L2.St} {H : Hp} {a : Addr} {xs : List V} (ha : H a = some (.lst xs) ∨ H a = some (.tup xs)) (h : Ev te σ H (.ref a)) :
    Ev (tCB (rIsiT K) (tCons te (tCons (tTup (tCons (tC (.ty "list")) (tCons (tC (.ty "tuple")) tNil))) tNil))) σ H (.bl true) := by
  rcases ha with ha | ha
  · exact ev_isi2 h (fun H1 e1 => .base (.lst (e1 _ _ ha))) (kitAny_cons (b := true) (kit_ty (by decide +kernel)) (fun h => nomatch h) fun _ => rfl)
  · exact ev_isi2 h (fun H1 e1 => .base (.tup (e1 _ _ ha))) (kitAny_cons (b := false) (kit_ty (by decide +kernel)) (fun _ => kitAny_cons (b := true) (kit_ty (by decide +kernel)) (fun h => nomatch h) fun _ => rfl) fun h => nomatch h)
def preWrong : List V → Hp → Prop := fun vs H => ∃ (a : Addr) (fl : List Str) (v : V) (n : Nat) (S : Addr → Prop) (d : D) (s : Sh), vs = [.ref a, v] ∧ (H a = some (.lst (fl.map V.str)) ∨ H a = some (.tup (fl.map V.str))) ∧ fl.length ≤ 2 ∧ (∀ x ∈ fl, isW x) ∧ fl.Nodup ∧ Rep H n S d v ∧ shD d s ∧ okSh s
theorem ok_wrong_part (T : Txt K mg C_Shape) (R : Prg K mg C_Shape) : ∃ f fd, Fn P w K mg base "wrong_part" 5 ["flags", "lists"] (spV .non preWrong) f fd := by
  obtain ⟨_, _, G_are_words⟩ := ok_are_wordsU (P := P) (w := w) (base := base) T R
  obtain ⟨_, _, G_are_lists⟩ := ok_are_lists (P := P) (w := w) (base := base) T R
  obtain ⟨_, _, G_are_fields⟩ := ok_are_fields (P := P) (w := w) (base := base) T R
  obtain ⟨_, _, G_list_rows⟩ := ok_list_rows (P := P) (w := w) (base := base) T R
  obtain ⟨f, fd, at_, F, kp⟩ := R.wrong_part
  refine ⟨f, fd, F.ok sc_wrong_part (fun vs H Q E h => ?_) (fun cdv A outer s H vs Q E hr h => ?_), at_, kp, F.binds (fun _ _ _ _ _ _ us hl => match us, hl with | [_, _], _ => rfl)⟩
  · obtain ⟨⟨a, fl, v, n, S, d, s, rfl, _⟩, _⟩ := h; rfl
  · obtain ⟨⟨a, fl, v, n, S, d, z, rfl, ha, f2, fw, fn, hv, hd, hz⟩, k⟩ := h
    obtain ⟨r4, rok⟩ := okSh_rows hz
    refine ⟨_, (pss_cons (ps_if (PW.pt (pw_or (pt_not (pt_val (pe_callB (r := rIsiT K) call_isiT (by rfl) T.isinstance (by decide +kernel) (pa_cons (pv 0) (pa_cons (pe_tup (pa_cons (pe_bltn (v := .ty "list") (by rfl) T.list boot_list rfl) (pa_cons (pe_bltn (v := .ty "tuple") (by rfl) T.tuple boot_tuple rfl) pa_nil))) pa_nil))))) (pw_or1 (pt_not (pt_val (pcl G_are_words hr (pa_cons (pv 0) (pa_cons pe_int (pa_cons pe_int pa_nil))))))))) pss_never pss_nil)
  (pss_cons (ps_if (pt_not (pt_val (pcl G_are_lists hr (pa_cons (pv 1) pa_nil)))) pss_never pss_nil)
  (pss_cons (ps_set (i := 2) sc_wrong_part.nd rfl (Or.inl rfl) (pcl G_list_rows hr (pa_cons (pv 1) pa_nil)))
  (pss_cons (ps_if (pt_not (pt_val (pe_callB (r := rAll K) (cr_all rfl) (by rfl) T.all (by decide +kernel) (pa_cons (pe_lc (own := [("name", 3), ("parent", 4), ("fields", 5)]) rfl sc_wrong_part.nd (show PI _ _ _ (iList K _) from pi_list (pv 2)) (blkOk_by (own := [("name", 3), ("parent", 4), ("fields", 5)]) (N := ["flags", "lists", "rows", "name", "parent", "fields"]) (sc := defScope s_wrong_part) (by decide +kernel)) (fun _ _ _ _ _ => (show PG _ _ (gTup K 3 _) from pg_tup (n := 3) rfl (pgs_cons (pg_name (i := 3) sc_wrong_part.nd rfl (Or.inl rfl)) (pgs_cons (pg_name (i := 4) sc_wrong_part.nd rfl (Or.inl rfl)) (pgs_cons (pg_name (i := 5) sc_wrong_part.nd rfl (Or.inl rfl)) pgs_nil))))) (fun _ _ _ _ _ => pts_nil) (fun _ _ _ _ _ => (pcl G_are_fields hr (pa_cons (pv 5) pa_nil)))) pa_nil)))) pss_never pss_nil)
  (pss_cons (ps_if (pt_cmpR op_lt (pe_callB call_lenTxs (by rfl) T.len (by decide +kernel) (pa_cons (pe_scT (own := [("name", 3), ("parent", 4), ("fields", 5)]) rfl sc_wrong_part.nd (show PI _ _ _ (iList K _) from pi_list (pv 2)) (blkOk_by (own := [("name", 3), ("parent", 4), ("fields", 5)]) (N := ["flags", "lists", "rows", "name", "parent", "fields"]) (sc := defScope s_wrong_part) (by decide +kernel)) (fun _ _ _ _ _ => (show PG _ _ (gTup K 3 _) from pg_tup (n := 3) rfl (pgs_cons (pg_name (i := 3) sc_wrong_part.nd rfl (Or.inl rfl)) (pgs_cons (pg_name (i := 4) sc_wrong_part.nd rfl (Or.inl rfl)) (pgs_cons (pg_name (i := 5) sc_wrong_part.nd rfl (Or.inl rfl)) pgs_nil))))) (fun _ _ _ _ _ => pts_nil) (fun _ _ _ _ _ => (pv 3))) pa_nil)) (pe_callB (r := rLenA K) call_len (by rfl) T.len (by decide +kernel) (pa_cons (pv 2) pa_nil)) (nomark _)) pss_never pss_nil)
  (pss_one (ps_ret pe_non))))))), ?_⟩
    refine Evl.q_when (b := false) (Evl.et_or (a := false) (b := false) (Evl.et_not (a := true) (Evl.et_B (isi_lt ha (Evl.ev_var rfl)))) fun _ => Evl.et_not (a := true) (Evl.et_B (spV_ev (Evl.ea_cons (Evl.ev_var rfl) (Evl.ea_cons Evl.ev_c (Evl.ea_cons Evl.ev_c Evl.ea_nil))) fun H1 e1 => ha.elim (fun ha => ⟨false, a, fl, 0, 2, rfl, Evl.sq_of (e1 _ _ ha), by omega, by omega, by omega, fw, fn⟩) fun ha => ⟨true, a, fl, 0, 2, rfl, Evl.st_of (e1 _ _ ha), by omega, by omega, by omega, fw, fn⟩))) (fun h => nomatch h) fun _ H1 e1 => ?_
    refine Evl.q_when (b := false) (Evl.et_not (a := true) (Evl.et_B (spV_ev (Evl.ea_cons (Evl.ev_var rfl) Evl.ea_nil) fun H2 e2 => ⟨v, n, S, d, z, rfl, rep_ex (e1.trans e2) hv, hd, hz⟩))) (fun h => nomatch h) fun _ H2 e2 => ?_
    refine ⟨_, rfl, v, n, S, d, z, rfl, rep_ex (e1.trans e2) hv, hd, hz, fun H3 p xs e3 np hp hrows => ?_⟩
    have lx := pair_len hrows
    have row : ∀ (i : Nat) (x : V), xs[i]? = some x → ∃ r, (rowsS z)[i]? = some r ∧ RowAt H2 H3 n S r x := fun i x hx => pair_back hrows hx
    refine Evl.q_when (b := false) (Evl.et_not (a := true) (Evl.et_B (ev_allT (n := xs.length) (el_lcG (Evl.ev_var rfl) (Evl.sq_of hp) (by omega) fun i x hx H4 e4 => ?_)))) (fun h => nomatch h) fun _ H4 e4 => ?_
    · obtain ⟨r, hr1, hr2⟩ := row i x hx
      obtain ⟨fv, hf, hu⟩ := row_unp (K := K) hr2 (i := 3) (j := 4) (k := 5)
      exact ⟨_, hu H4 e4 (by intro _ _ _; rfl), fun H5 e5 => spV_ev (Evl.ea_cons (Evl.ev_var rfl) Evl.ea_nil) fun H6 e6 => ⟨fv, n, S, r.2.2, rfl, rep_ex (e3.trans (e5.trans e6)) hf, (rok r (List.mem_of_getElem? hr1)).2⟩⟩
    · refine Evl.q_when (b := false) (Evl.et_test (Evl.ev_is (Evl.ev_op (ex_scG (nms := (rowsS z).map (·.1)) (Evl.ev_var rfl) (Evl.sq_of (e4 _ _ hp)) (by rw [List.length_map]; exact lx) (by omega) fun i x hx => ?_) (ev_lenL (Evl.ev_var rfl) (.inl (Evl.sq_of (e4 _ _ hp)))) Evl.rv_I0) ?_)) (fun h => nomatch h) fun _ H5 e5 => Evl.s_ret Evl.ev_c fun H6 e6 => k H6 (e1.trans (e2.trans (e3.trans (e4.trans (e5.trans e6)))))
      · obtain ⟨r, hr1, hr2⟩ := row i x hx
        refine ⟨r.1, by rw [List.getElem?_map, hr1]; rfl, fun H5 e5 => ?_⟩
        obtain ⟨fv, hf, hu⟩ := row_unp (K := K) hr2 (i := 3) (j := 4) (k := 5)
        exact ⟨_, hu H5 (e4.trans e5) (by intro _ _ _; rfl), fun H6 e6 => Evl.ev_var rfl⟩
      · rw [met_nodup _ [] hz.2.1, List.nil_append, List.length_map, lx]
        simp
end
end Pk

namespace Pk
open PySem PySem.Spec PyProof.Rows L2 Ssb
open Evl (Ex Ev EvT EvL EvA EvU)
/-! ### a Shape as it stands -/
def oD : Option Str → D
  | none => .non
  | some x => .str x
def tabD (s : Sh) : D := .dic ((rowsS s).map fun r => (r.1, .tup [oD r.2.1, flD r.2.2]))
def shF (ft tb : Addr) : List (Str × V) := putF "table" (.ref tb) (putF "flags" (.ref ft) [])
theorem ne_tf : ¬ (("table" : Str) = "flags") := by decide +kernel
theorem ne_ft : ¬ (("flags" : Str) = "table") := by decide +kernel
theorem shF_flags (ft tb : Addr) : (shF ft tb).lookup ("flags" : Str) = some (.ref ft) := by
  unfold shF; rw [lookup_putF, if_neg ne_ft, lookup_putF, if_pos rfl]
theorem shF_table (ft tb : Addr) : (shF ft tb).lookup ("table" : Str) = some (.ref tb) := by
  unfold shF; rw [lookup_putF, if_pos rfl]
theorem shF_no (ft tb : Addr) {m : Str} (h1 : ¬ m = "flags") (h2 : ¬ m = "table") : (shF ft tb).lookup m = none := by
  unfold shF; rw [lookup_putF, if_neg h2, lookup_putF, if_neg h1]; rfl
/-- at p: the Shape with these flags (ascending) and these lists -/
def ShapeAt (C : Addr) (H : Hp) (p : Addr) (fl : List Str) (s : Sh) (S : Addr → Prop) : Prop := ∃ dx ft tb, H p = some (.ins C dx (shF ft tb)) ∧ H ft = some (.tup (fl.map V.str)) ∧ Rep H 5 S (tabD s) (.ref tb)
theorem ShapeAt.ex {C : Addr} {H H' : Hp} {p : Addr} {fl : List Str} {s : Sh} {S : Addr → Prop} (e : Ex H H') (h : ShapeAt C H p fl s S) : ShapeAt C H' p fl s S := by
  obtain ⟨dx, ft, tb, h1, h2, h3⟩ := h; exact ⟨dx, ft, tb, e _ _ h1, e _ _ h2, rep_ex e h3⟩
/-- fields in a new dict with the same entries -/
theorem fl_new {H : Hp} {n : Nat} {S : Addr → Prop} {f : Fl} {v : V} (h : Rep H n S (flD f) v) : ∃ a es, v = .ref a ∧ H a = some (.dK es) ∧ f.length ≤ 100000 ∧
    ∀ {H' : Hp} {S' : Addr → Prop} {b : Addr}, (∀ a xs, H a = some (.tup xs) → H' a = some (.tup xs)) → S' b → H' b = some (.dK es) → Rep H' 3 S' (flD f) (.ref b) := by
  cases n with
  | zero => exact h.elim
  | succ n =>
  obtain ⟨a, es, e, _, ha, hl, pr⟩ := h
  refine ⟨a, es, e, ha, by simpa using hl, fun {H' S' b} k sb hb => ⟨b, es, rfl, sb, hb, hl, ?_⟩⟩
  have key : ∀ (f : Fl) (es : List (Key × V)), Paired (fun (q : Str × D) (e : Key × V) => e.1 = Sum.inr q.1 ∧ Rep H n (fun b => S b ∧ b ≠ a) q.2 e.2) (f.map fun p => (p.1, D.tup (p.2.map .str))) es →
      Paired (fun (q : Str × D) (e : Key × V) => e.1 = Sum.inr q.1 ∧ Rep H' 2 (fun c => S' c ∧ c ≠ b) q.2 e.2) (f.map fun p => (p.1, D.tup (p.2.map .str))) es := by
    intro f
    induction f with
    | nil => intro es pr; cases pr; exact .nil
    | cons p f ih =>
      intro es pr
      cases pr with
      | cons h t =>
        refine .cons ⟨h.1, ?_⟩ (ih _ t)
        have h2 := h.2
        cases n with
        | zero => exact h2.elim
        | succ n =>
        obtain ⟨c, xs, e1, hc, hl1, p1⟩ := h2
        have ex := rep_strs p1
        subst ex
        refine ⟨c, _, e1, k c _ hc, hl1, ?_⟩
        have allS : ∀ ws : List Str, Paired (fun d x => Rep H' 1 (fun c => S' c ∧ c ≠ b) d x) (ws.map D.str) (ws.map V.str) := by
          intro ws
          induction ws with
          | nil => exact .nil
          | cons y ws ih => exact .cons rfl ih
        exact allS p.2
  exact key f es pr
theorem row_fresh {l : List Ro} {i : Nat} {r : Ro} {d0 : D} (hn : (l.map (·.1)).Nodup) (hr : l[i]? = some r) (hl : List.lookup r.1 ((l.map fun r => (r.1, D.tup [oD r.2.1, flD r.2.2])).take i) = some d0) : False := by
  have mem : ∀ {m : List (Str × D)} {k : Str} {d : D}, m.lookup k = some d → k ∈ m.map (·.1) := by
    intro m
    induction m with
    | nil => intro k d h; cases h
    | cons q m ih =>
      intro k d h
      obtain ⟨j, e⟩ := q
      rw [lk_cons] at h
      by_cases c : k = j
      · rw [c]; exact List.mem_cons_self
      · rw [if_neg c] at h
        exact List.mem_cons_of_mem _ (ih h)
  have h1 := mem hl
  rw [← List.map_take, List.map_map] at h1
  obtain ⟨r2, hr2, e2⟩ := List.mem_map.mp h1
  obtain ⟨j, hj, ej⟩ := List.mem_iff_getElem.mp hr2
  rw [List.length_take] at hj
  have hj2 : l[j]? = some r2 := by
    rw [← ej, List.getElem_take, List.getElem?_eq_getElem (by omega)]
  have a1 : (l.map (·.1))[j]? = some r.1 := by
    rw [List.getElem?_map, hj2]; exact congrArg some e2
  have a2 : (l.map (·.1))[i]? = some r.1 := by
    rw [List.getElem?_map, hr]; rfl
  have := nodup_ix hn a1 a2
  omega
section
variable {P : Program} {w : World} {K : PySem.W.Frag} {mg : Str → Option Value} {base : Heap} {C_Shape : Addr}
/-- Shape(flags, lists), flags a list -/
def spInit (C : Addr) : Sp := fun vs H Q _ => ∃ (p dx a : Addr) (fl : List Str) (v : V) (n : Nat) (S : Addr → Prop) (d : D) (s : Sh), vs = [.ref p, .ref a, v] ∧ H p = some (.ins C dx []) ∧ (H a = some (.lst (fl.map V.str)) ∨ H a = some (.tup (fl.map V.str))) ∧ fl.length ≤ 2 ∧ (∀ x ∈ fl, isW x) ∧ fl.Nodup ∧ Rep H n S d v ∧ shD d s ∧ okSh s ∧ ¬ S p ∧
  ∀ H' fl', (∀ b o, b ≠ p → H b = some o → H' b = some o) → fl'.Perm fl → sortedS fl' = true → ShapeAt C H' p fl' s (fun b => H b = none) → Q .non H'
theorem ok_Shape_init (T : Txt K mg C_Shape) (R : Prg K mg C_Shape) : ∃ f fd, Mt P w K mg base C_Shape "__init__" 6 ["self", "flags", "lists"] (spInit C_Shape) f fd := by
  obtain ⟨_, _, G_wrong_part⟩ := ok_wrong_part (P := P) (w := w) (base := base) T R
  obtain ⟨_, _, G_list_rows⟩ := ok_list_rows (P := P) (w := w) (base := base) T R
  obtain ⟨f, fd, F, fi, isf, kp⟩ := R.Shape_init
  refine ⟨f, fd, F.ok sc_Shape_init (fun vs H Q E h => ?_) (fun cdv A outer s H vs Q E hr h => ?_), ⟨fi, isf, kp⟩, F.binds (fun _ _ _ _ _ _ us hl => match us, hl with | [_, _, _], _ => rfl)⟩
  · obtain ⟨p, dx, a, fl, v, n, S, d, s, rfl, _⟩ := h; rfl
  · obtain ⟨p, dx, a, fl, v, n, S, d, z, rfl, hp, ha, f2, fw, fn, hv, hd, hz, nSp, k⟩ := h
    obtain ⟨r4, rok⟩ := okSh_rows hz
    refine ⟨_, (pss_cons (ps_set (i := 3) sc_Shape_init.nd rfl (Or.inl rfl) (pcl G_wrong_part hr (pa_cons (pv 1) (pa_cons (pv 2) pa_nil))))
  (pss_cons (ps_if (pt_cmpR op_notN (pv 3) pe_non (nomark _)) pss_never pss_nil)
  (pss_cons (ps_fld (pv 0) (pe_callTy (r := rTupA K) call_tuple_of (by rfl) T.tuple (by decide +kernel) (pa_cons (pe_callB (r := rSortedS K) cr_sortedS (by rfl) T.sorted (by decide +kernel) (pa_cons (pe_callTy (r := rListA K) call_list_of (by rfl) T.list (by decide +kernel) (pa_cons (pv 1) pa_nil)) pa_nil)) pa_nil)) rfl)
  (pss_one (ps_fld (pv 0) (pe_dc (own := [("name", 4), ("parent", 5), ("fields", 6)]) rfl sc_Shape_init.nd (show PI _ _ _ (iList K _) from pi_list (pcl G_list_rows hr (pa_cons (pv 2) pa_nil))) (blkOk_by (own := [("name", 4), ("parent", 5), ("fields", 6)]) (N := ["self", "flags", "lists", "part", "name", "parent", "fields"]) (sc := defScope s_Shape_init) (by decide +kernel)) (fun _ _ _ _ _ => (show PG _ _ (gTup K 3 _) from pg_tup (n := 3) rfl (pgs_cons (pg_name (i := 4) sc_Shape_init.nd rfl (Or.inl rfl)) (pgs_cons (pg_name (i := 5) sc_Shape_init.nd rfl (Or.inl rfl)) (pgs_cons (pg_name (i := 6) sc_Shape_init.nd rfl (Or.inl rfl)) pgs_nil))))) (fun _ _ _ _ _ => pts_nil) (fun _ _ _ _ _ => (pv 4)) (fun _ _ _ _ _ => (pe_tup (pa_cons (pv 5) (pa_cons (pe_callTy call_dictD (by rfl) T.dict (by decide +kernel) (pa_cons (pv 6) pa_nil)) pa_nil))))) rfl))))), ?_⟩
    -- part = wrong_part(flags, lists)
    refine ⟨_, rfl, _, rfl, ⟨a, fl, v, n, S, d, z, rfl, ha, f2, fw, fn, hv, hd, hz⟩, fun H1 e1 => ?_⟩
    refine Evl.q_when (b := false) (Evl.et_is (Evl.et_test (Evl.ev_op (Evl.ev_var rfl) Evl.ev_c rv_notN)) rfl) (fun h => nomatch h) fun _ H2 e2 => ?_
    have e12 := e1.trans e2
    -- self.flags = tuple(sorted(list(flags)))
    refine ⟨_, rfl, a, fl.map V.str, rfl, (ha.elim (fun ha => .inl (Evl.sq_of (e12 _ _ ha))) fun ha => .inr (Evl.st_of (e12 _ _ ha))), fun q hq => ?_⟩
    refine ⟨q, fl, rfl, Evl.sq_of upd_same, by omega, fun ys q2 perm so hq2 => ?_⟩
    refine ⟨q2, ys.map V.str, rfl, .inl ⟨Evl.sq_of upd_same, fun ft hft => ?_⟩⟩
    have e3 : Ex H2 (upd (upd (upd H2 q (.lst (fl.map V.str))) q2 (.lst (ys.map V.str))) ft (.tup (ys.map V.str))) := (Ex.new hq).trans ((Ex.new hq2).trans (Ex.new hft))
    have e03 := e12.trans e3
    have hft0 : (upd (upd (upd H2 q (.lst (fl.map V.str))) q2 (.lst (ys.map V.str))) ft (.tup (ys.map V.str))) ft = some (.tup (ys.map V.str)) := upd_same
    generalize (upd (upd (upd H2 q (.lst (fl.map V.str))) q2 (.lst (ys.map V.str))) ft (.tup (ys.map V.str))) = H3 at e3 e03 hft0 ⊢
    refine ⟨_, rfl, p, C_Shape, dx, [], rfl, e03 _ _ hp, T.cl_Shape, T.no_Shape_flags, (by show 0 < 1000; decide), ?_⟩
    have npft : ft ≠ p := fun e => by
      have := e03 _ _ hp
      rw [← e, hft0] at this; cases this
    -- the heap with the flags
    have e4 : ∀ b o, b ≠ p → H b = some o → (upd H3 p (.ins C_Shape dx (putF "flags" (.ref ft) []))) b = some o := fun b o nb hb => by rw [upd_ne nb]; exact e03 _ _ hb
    have hv4 : Rep (upd H3 p (.ins C_Shape dx (putF "flags" (.ref ft) []))) n S d v := rep_to (fun b o hb hs => e4 b o (fun e => by
      rcases hs with hs | ⟨xs, rfl⟩
      · rw [e] at hs; exact nSp hs
      · rw [e, hp] at hb; cases hb) hb) hv
    have hp4 : (upd H3 p (.ins C_Shape dx (putF "flags" (.ref ft) []))) p = some (.ins C_Shape dx (putF "flags" (.ref ft) [])) := upd_same
    have hft4 : (upd H3 p (.ins C_Shape dx (putF "flags" (.ref ft) []))) ft = some (.tup (ys.map V.str)) := by rw [upd_ne npft]; exact hft0
    have old4 : ∀ b, (upd H3 p (.ins C_Shape dx (putF "flags" (.ref ft) []))) b = none → H b = none := fun b hb => by
      cases e : H b with
      | none => rfl
      | some o =>
        have nb : b ≠ p := fun z => by rw [z, upd_same] at hb; cases hb
        rw [e4 b o nb e] at hb; cases hb
    generalize (upd H3 p (.ins C_Shape dx (putF "flags" (.ref ft) []))) = H4 at e4 hv4 hp4 hft4 old4 ⊢
    -- self.table = {..}
    refine ⟨_, rfl, v, n, S, d, z, rfl, hv4, hd, hz, fun H5 rp xs e5 nrp hrp hrows => ?_⟩
    have lx := pair_len hrows
    refine ⟨rp, rfl, ⟨xs, Evl.sq_of hrp⟩, fun Dl hD => ?_⟩
    refine ⟨fun i m H' => m = xs.length - i ∧ i ≤ xs.length ∧ Ex H5 H' ∧ ∃ es, H' Dl = some (.dK es) ∧ Paired (fun (q : Str × D) (e : Key × V) => e.1 = Sum.inr q.1 ∧ Rep H' 4 (fun b => H5 b = none ∧ b ≠ Dl) q.2 e.2) ((((rowsS z).map fun r => (r.1, D.tup [oD r.2.1, flD r.2.2]))).take i) es, ⟨xs.length, by simp, Nat.zero_le _, Ex.new hD, [], upd_same, .nil⟩, ?_⟩
    rintro i m H' ⟨rfl, hi, e6, es, hes, pes⟩
    have sq : SqL K H' rp xs := Evl.sq_of (e6 _ _ hrp)
    by_cases hlt : i < xs.length
    · refine .inr ⟨⟨xs, xs[i], sq, by simp [hlt]⟩, fun H' => Ex H5 H' ∧ ∃ es, H' Dl = some (.dK es) ∧ Paired (fun (q : Str × D) (e : Key × V) => e.1 = Sum.inr q.1 ∧ Rep H' 4 (fun b => H5 b = none ∧ b ≠ Dl) q.2 e.2) ((((rowsS z).map fun r => (r.1, D.tup [oD r.2.1, flD r.2.2]))).take (i + 1)) es, fun H' p' => ⟨xs.length - (i + 1), by omega, rfl, hlt, p'⟩, fun x H'' y => ?_⟩
      obtain ⟨rfl, y⟩ := y
      obtain ⟨r, hr1, ra, fv, rfl, hra, hfv⟩ := pair_back hrows (y xs sq)
      obtain ⟨fa, fes, rfl, hfa, fl5, mk⟩ := fl_new (rep_ex (e5.trans e6) hfv)
      refine ⟨ra, _, rfl, Evl.st_of (e6 _ _ hra), rfl, _, _, rfl, _, _, rfl, _, _, rfl, rfl, rfl, ?_⟩
      refine yes_go ?_
      refine ⟨_, rfl, _, rfl, _, rfl, fa, fes, rfl, .inl hfa, fun fb hfb => ⟨(by show 2 ≤ sizeLine; decide), fun tp htp => ?_⟩⟩
      have e7 : Ex H'' (upd (upd H'' fb (.dK fes)) tp (.tup [oV r.2.1, .ref fb])) := (Ex.new hfb).trans (Ex.new htp)
      have nfD : fb ≠ Dl := fun e => by rw [e, hes] at hfb; cases hfb
      have nft : fb ≠ tp := fun e => by rw [← e, upd_same] at htp; cases htp
      have nDt : Dl ≠ tp := fun e => by rw [← e, upd_ne (Ne.symm nfD), hes] at htp; cases htp
      have ntab : valV es (Sum.inr r.1 : Key) = none := by
        refine pair_no (F := fun d v => Rep H'' 4 (fun b => H5 b = none ∧ b ≠ Dl) d v) pes ?_
        cases hl : List.lookup r.1 ((((rowsS z).map fun r => (r.1, D.tup [oD r.2.1, flD r.2.2]))).take i) with
        | none => rfl
        | some d0 => exact (row_fresh hz.2.1 hr1 hl).elim
      have hes2 : (upd (upd H'' fb (.dK fes)) tp (.tup [oV r.2.1, .ref fb])) Dl = some (.dK es) := by rw [upd_ne nDt, upd_ne (Ne.symm nfD)]; exact hes
      have les : es.length ≤ 4 := by
        rw [← pair_len pes, List.length_take, List.length_map]; omega
      refine ⟨es, Sum.inr r.1, rfl, hes2, Evl.sz_lt (by omega), Ex.mut (e6.trans e7) hD, es ++ [(Sum.inr r.1, .ref tp)], by rw [upd_same, putK_new _ ntab], ?_⟩
      have ej : ((((rowsS z).map fun r => (r.1, D.tup [oD r.2.1, flD r.2.2]))).take (i + 1)) = ((((rowsS z).map fun r => (r.1, D.tup [oD r.2.1, flD r.2.2]))).take i) ++ [(r.1, D.tup [oD r.2.1, flD r.2.2])] := by
        rw [List.take_add_one, List.getElem?_map, hr1]; rfl
      rw [ej]
      have keep : ∀ b o, (upd (upd H'' fb (.dK fes)) tp (.tup [oV r.2.1, .ref fb])) b = some o → ((H5 b = none ∧ b ≠ Dl) ∨ ∃ xs, o = .tup xs) → (upd (upd (upd H'' fb (.dK fes)) tp (.tup [oV r.2.1, .ref fb])) Dl (.dK (putK es (Sum.inr r.1) (.ref tp)))) b = some o := fun b o hb hs => by
        have nb : b ≠ Dl := by
          rcases hs with hs | ⟨xs, rfl⟩
          · exact hs.2
          · intro e; rw [e, hes2] at hb; cases hb
        rw [upd_ne nb]; exact hb
      refine pair_snoc (pair_imp pes fun a b h => ⟨h.1, rep_to keep (rep_ex e7 h.2)⟩) ⟨rfl, rep_to keep ?_⟩
      refine ⟨tp, [oV r.2.1, .ref fb], rfl, upd_same, (by show 2 ≤ 100000; decide), .cons ?_ (.cons (mk (b := fb) (fun a xs ha => e7 _ _ ha) ⟨?_, nfD⟩ ?_) .nil)⟩
      · cases r.2.1 with
        | none => rfl
        | some x => rfl
      · cases e : H5 fb with
        | none => rfl
        | some o => rw [e6 _ _ e] at hfb; cases hfb
      · rw [upd_ne nft, upd_same]
    · have ei : i = xs.length := by omega
      subst ei
      refine .inl ⟨⟨xs, sq, Nat.le_refl _⟩, _, rfl, p, C_Shape, dx, _, rfl, e6 _ _ (e5 _ _ hp4), T.cl_Shape, T.no_Shape_table, (by show 1 < 1000; decide), ?_⟩
      have np5 : H5 p ≠ none := by rw [e5 _ _ hp4]; exact fun h => nomatch h
      have neDp : Dl ≠ p := fun e => by rw [e, e5 _ _ hp4] at hD; cases hD
      have keep : ∀ b o, H' b = some o → (b ≠ p) → (upd H' p (.ins C_Shape dx (putF "table" (.ref Dl) (putF "flags" (.ref ft) [])))) b = some o := fun b o hb nb => by rw [upd_ne nb]; exact hb
      refine k _ ys (fun b o nb hb => keep b o (e6 _ _ (e5 _ _ (e4 b o nb hb))) nb) perm so ⟨dx, ft, Dl, upd_same, keep _ _ (e6 _ _ (e5 _ _ hft4)) npft, ?_⟩
      refine rep_S (S := fun b => H5 b = none) (fun b hb => old4 b (Evl.fresh_back e5 hb)) ?_
      refine rep_to (H := H') (fun b o hb hs => keep b o hb fun e => ?_) ⟨Dl, es, rfl, hD, hes, ?_, ?_⟩
      · rcases hs with hs | ⟨xs, rfl⟩
        · rw [e] at hs; exact np5 hs
        · have := e6 _ _ (e5 _ _ hp4)
          rw [e, this] at hb; cases hb
      · rw [List.length_map]; omega
      · have ez : ((((rowsS z).map fun r => (r.1, D.tup [oD r.2.1, flD r.2.2]))).take xs.length) = ((rowsS z).map fun r => (r.1, D.tup [oD r.2.1, flD r.2.2])) := List.take_of_length_le (by rw [List.length_map]; omega)
        rw [ez] at pes
        exact pes
end
end Pk

namespace Pk
open PySem PySem.Spec PyProof.Rows L2 Ssb
open Evl (Ex Ev EvT EvL EvA EvU)
theorem valV_at : ∀ {es : List (Key × V)} {i : Nat} {k : Key} {v : V}, (es.map (·.1)).Nodup → es[i]? = some (k, v) → valV es k = some v
  | [], i, k, v, _, h => by simp at h
  | e :: es, 0, k, v, _, h => by
    simp at h; subst h
    rw [vV_cons, if_pos rfl]
  | e :: es, i + 1, k, v, nd, h => by
    have h2 : es[i]? = some (k, v) := by simpa using h
    rw [List.map_cons, List.nodup_cons] at nd
    rw [vV_cons, if_neg, valV_at nd.2 h2]
    intro z
    refine nd.1 ?_
    rw [z]
    exact List.mem_map.mpr ⟨(k, v), List.mem_of_getElem? h2, rfl⟩
theorem oV_inj {a b : Option Str} : decide (oV a = oV b) = decide (a = b) := by
  cases a <;> cases b <;> simp [oV]
theorem oV_scal (a b : Option Str) : scal (oV a) (oV b) = true := by cases a <;> cases b <;> rfl
/-- what the table tells -/
theorem tab_get {H : Hp} {S : Addr → Prop} {s : Sh} {tb : Addr} (hn : ((rowsS s).map (·.1)).Nodup) (h : Rep H 5 S (tabD s) (.ref tb)) : ∃ es, H tb = some (.dK es) ∧ es.length = (rowsS s).length ∧ (∀ (i : Nat) (k : Key) (v : V), es[i]? = some (k, v) → ∃ r, (rowsS s)[i]? = some r ∧ k = Sum.inr r.1 ∧ valV es k = some v) ∧
    ∀ r ∈ rowsS s, ∃ tp fv, valV es (Sum.inr r.1 : Key) = some (.ref tp) ∧ H tp = some (.tup [oV r.2.1, fv]) ∧ Rep H 3 S (flD r.2.2) fv := by
  obtain ⟨_, es, e, _, hes, _, pr⟩ := h
  cases e
  have le : es.length = (rowsS s).length := by rw [← pair_len pr, List.length_map]
  have keys : es.map (·.1) = (rowsS s).map fun r => (Sum.inr r.1 : Key) := by
    refine List.ext_getElem? fun i => ?_
    rw [List.getElem?_map, List.getElem?_map]
    cases hi : es[i]? with
    | none =>
      have : (rowsS s)[i]? = none := List.getElem?_eq_none_iff.mpr (by rw [← le]; exact List.getElem?_eq_none_iff.mp hi)
      rw [this]; rfl
    | some e =>
      obtain ⟨q, hq, h1, _⟩ := pair_back pr hi
      rw [List.getElem?_map] at hq
      cases hr : (rowsS s)[i]? with
      | none => rw [hr] at hq; cases hq
      | some r =>
        rw [hr] at hq; cases hq
        exact congrArg some h1
  have nd : (es.map (·.1)).Nodup := by
    rw [keys]
    have e2 : ((rowsS s).map fun r => (Sum.inr r.1 : Key)) = ((rowsS s).map (·.1)).map Sum.inr := by rw [List.map_map]; rfl
    rw [e2]
    exact List.Pairwise.map _ (fun a b h z => h (Sum.inr.inj z)) hn
  have at_ : ∀ (i : Nat) (r : Ro), (rowsS s)[i]? = some r → ∃ v, es[i]? = some (Sum.inr r.1, v) ∧ Rep H 4 (fun b => S b ∧ b ≠ tb) (.tup [oD r.2.1, flD r.2.2]) v := fun i r hr => by
    obtain ⟨e, he, h1, h2⟩ := pair_at pr (i := i) (a := (r.1, .tup [oD r.2.1, flD r.2.2])) (by rw [List.getElem?_map, hr]; rfl)
    obtain ⟨k, v⟩ := e
    have h1 : k = Sum.inr r.1 := h1
    exact ⟨v, by rw [he, h1], h2⟩
  refine ⟨es, hes, le, fun i k v hi => ?_, fun r hr => ?_⟩
  · obtain ⟨q, hq, h1, _⟩ := pair_back pr hi
    rw [List.getElem?_map] at hq
    cases hr : (rowsS s)[i]? with
    | none => rw [hr] at hq; cases hq
    | some r =>
      rw [hr] at hq; cases hq
      exact ⟨r, rfl, h1, valV_at nd hi⟩
  · obtain ⟨i, hi, ei⟩ := List.mem_iff_getElem.mp hr
    obtain ⟨v, hv, tp, xs, rfl, htp, _, pp⟩ := at_ i r (by rw [← ei]; exact List.getElem?_eq_getElem hi)
    have two : ∃ x1 x2, xs = [x1, x2] ∧ Rep H 3 (fun b => S b ∧ b ≠ tb) (oD r.2.1) x1 ∧ Rep H 3 (fun b => S b ∧ b ≠ tb) (flD r.2.2) x2 := by
      cases pp with
      | cons h1 t =>
        cases t with
        | cons h2 t2 =>
          cases t2
          exact ⟨_, _, rfl, h1, h2⟩
    obtain ⟨x1, x2, rfl, h1, h2⟩ := two
    have e1 : x1 = oV r.2.1 := by
      cases hc : r.2.1 with
      | none => rw [hc] at h1; exact h1
      | some x => rw [hc] at h1; exact h1
    subst e1
    exact ⟨tp, _, valV_at nd hv, htp, rep_S (fun b hb => hb.1) h2⟩
/-- the names of the lists with this parent -/
def kids (s : Sh) (par : Option Str) : List Str := ((rowsS s).filter fun r => decide (r.2.1 = par)).map (·.1)
theorem kids_len {s : Sh} (par : Option Str) : (kids s par).length ≤ (rowsS s).length := by
  unfold kids; rw [List.length_map]; exact List.length_filter_le _ _
end Pk

namespace Pk
open PySem PySem.Spec PyProof.Rows L2 Ssb
open Evl (Ex Ev EvT EvL EvA EvU)
theorem map_range {α β : Type} {f : Nat → β} {g : α → β} : ∀ {l : List α} {n : Nat}, l.length = n → (∀ (i : Nat) (a : α), l[i]? = some a → f i = g a) → (List.range n).map f = l.map g := fun {l n} hn h => by
  refine List.ext_getElem? fun i => ?_
  rw [List.getElem?_map, List.getElem?_map]
  by_cases hi : i < n
  · have e : l[i]? = some (l[i]'(by omega)) := List.getElem?_eq_getElem (by omega)
    rw [e, List.getElem?_range hi]
    exact congrArg some (h i _ e)
  · have e : l[i]? = none := List.getElem?_eq_none_iff.mpr (by omega)
    rw [e, List.getElem?_eq_none_iff.mpr (by rw [List.length_range]; omega)]
    rfl
def txtBl (v : V) : Prop := (∃ s, v = .str s) ∨ ∃ b, v = .bl b
def ChoAt (H : Hp) (ch : Addr) (c : List (Str × List V)) : Prop := ∃ es, H ch = some (.dK es) ∧ Paired (fun (q : Str × List V) (e : Key × V) => e.1 = Sum.inr q.1 ∧ ∃ t, e.2 = .ref t ∧ H t = some (.tup q.2)) c es
theorem ChoAt.ex {H H' : Hp} {ch : Addr} {c : List (Str × List V)} (e : Ex H H') (h : ChoAt H ch c) : ChoAt H' ch c := by
  obtain ⟨es, h1, pr⟩ := h
  exact ⟨es, e _ _ h1, pair_imp pr fun a b h => ⟨h.1, h.2.choose, h.2.choose_spec.1, e _ _ h.2.choose_spec.2⟩⟩
theorem lk_mem {α : Type} : ∀ {c : List (Str × α)} {k : Str}, k ∈ c.map (·.1) → ∃ x, c.lookup k = some x ∧ (k, x) ∈ c
  | [], k, h => nomatch h
  | (j, a) :: c, k, h => by
    rw [lk_cons]
    by_cases e : k = j
    · subst e
      exact ⟨a, by rw [if_pos rfl], List.mem_cons_self⟩
    · rcases List.mem_cons.mp h with h | h
      · exact absurd h e
      · obtain ⟨x, h1, h2⟩ := lk_mem h
        exact ⟨x, by rw [if_neg e]; exact h1, List.mem_cons_of_mem _ h2⟩
theorem pair_lkV {F : List V → V → Prop} : ∀ {l : List (Str × List V)} {es : List (Key × V)}, Paired (fun (q : Str × List V) (e : Key × V) => e.1 = Sum.inr q.1 ∧ F q.2 e.2) l es → ∀ {k : Str} {d : List V}, l.lookup k = some d → ∃ v, valV es (Sum.inr k : Key) = some v ∧ F d v
  | _, _, .nil, k, d, h => by simp [List.lookup] at h
  | (j, d0) :: l, e :: es, .cons h t, k, d, hk => by
    rw [lk_cons] at hk
    rw [vV_cons]
    by_cases c : k = j
    · rw [if_pos c] at hk
      cases hk
      exact ⟨e.2, by rw [if_pos (by rw [h.1, c])], h.2⟩
    · rw [if_neg c] at hk
      obtain ⟨v, h1, h2⟩ := pair_lkV t hk
      exact ⟨v, by rw [if_neg (by rw [h.1]; intro z; exact c (Sum.inr.inj z).symm)]; exact h1, h2⟩
def okFs (f : Fl) (c : List (Str × D)) : Prop := c.length = f.length ∧ ∀ p ∈ f, ∃ x, c.lookup p.1 = some (.str x) ∧ x ∈ p.2
theorem flD_cho {H : Hp} {n : Nat} {S : Addr → Prop} {f : Fl} {q : Addr} (h : Rep H n S (flD f) (.ref q)) : ChoAt H q (f.map fun p => (p.1, p.2.map V.str)) := by
  cases n with
  | zero => exact h.elim
  | succ n =>
  obtain ⟨a, es, e, _, ha, _, pr⟩ := h
  cases e
  refine ⟨es, ha, ?_⟩
  have key : ∀ {f : Fl} {es : List (Key × V)}, Paired (fun (q' : Str × D) (e : Key × V) => e.1 = Sum.inr q'.1 ∧ Rep H n (fun b => S b ∧ b ≠ q) q'.2 e.2) (f.map fun p => (p.1, D.tup (p.2.map .str))) es →
      Paired (fun (q' : Str × List V) (e : Key × V) => e.1 = Sum.inr q'.1 ∧ ∃ t, e.2 = .ref t ∧ H t = some (.tup q'.2)) (f.map fun p => (p.1, p.2.map V.str)) es := by
    intro f
    induction f with
    | nil => intro es p; cases p; exact .nil
    | cons x f ih =>
      intro es p
      rw [List.map_cons] at p
      cases p with
      | cons h t =>
        refine .cons ⟨h.1, ?_⟩ (ih t)
        exact rep_words h.2
  exact key pr
def idE (ids : List Int) : List (Key × V) := ids.map fun i => (Sum.inl i, V.bl true)
theorem idE_no : ∀ {ids : List Int} {i : Int}, i ∉ ids → valV (idE ids) (Sum.inl i : Key) = none
  | [], _, _ => rfl
  | j :: ids, i, h => by
    show valV ((Sum.inl j, V.bl true) :: idE ids) _ = none
    rw [vV_cons, if_neg fun z => h (by rw [Sum.inl.inj z]; exact List.mem_cons_self)]
    exact idE_no fun z => h (List.mem_cons_of_mem _ z)
end Pk

namespace Pk
open PySem PySem.Spec PyProof.Rows L2 Ssb
open Evl (Ex Ev EvT EvL EvA EvU)
/-! ### the stream -/
def StAt (H : Hp) (S c : Addr) : Prop := S ≠ c ∧ ∃ (k : Int) (cs : List Int), H S = some (.lst [.ref c, .int k]) ∧ H c = some (.lst (cs.map V.int)) ∧ 0 < cs.length ∧ cs.length ≤ 63
/-- from H to H': the stream moved, all else stands -/
structure Mv (S c : Addr) (H H' : Hp) : Prop where
  a : StAt H S c
  z : StAt H' S c
  fr : ∀ b o, b ≠ S → b ≠ c → H b = some o → H' b = some o
theorem StAt.ex {S c : Addr} {H H' : Hp} (e : Ex H H') (h : StAt H S c) : StAt H' S c := by
  obtain ⟨n, k, cs, h1, h2, h3⟩ := h; exact ⟨n, k, cs, e _ _ h1, e _ _ h2, h3⟩
theorem Mv.ex {S c : Addr} {H H' : Hp} (a : StAt H S c) (e : Ex H H') : Mv S c H H' := ⟨a, a.ex e, fun b o _ _ h => e b o h⟩
theorem Mv.trans {S c : Addr} {H H' H2 : Hp} (m : Mv S c H H') (m2 : Mv S c H' H2) : Mv S c H H2 := ⟨m.a, m2.z, fun b o n1 n2 h => m2.fr b o n1 n2 (m.fr b o n1 n2 h)⟩
theorem Mv.tx {S c : Addr} {H H' H2 : Hp} (m : Mv S c H H') (e : Ex H' H2) : Mv S c H H2 := m.trans (.ex m.z e)
theorem StAt.someS {S c : Addr} {H : Hp} (a : StAt H S c) {b : Addr} (h : H b = none) : b ≠ S ∧ b ≠ c := by
  obtain ⟨n, k, cs, h1, h2, h3⟩ := a
  exact ⟨fun e => (by rw [e, h1] at h; cases h), fun e => (by rw [e, h2] at h; cases h)⟩
theorem Mv.back {S c : Addr} {H H' : Hp} (m : Mv S c H H') {b : Addr} (h : H' b = none) : H b = none := by
  obtain ⟨n1, n2⟩ := m.z.someS h
  cases e : H b with
  | none => rfl
  | some o => rw [m.fr b o n1 n2 e] at h; cases h
/-- an object that H does not know may change -/
theorem Mv.mut {S c : Addr} {H H' : Hp} {p : Addr} {o : HO} (m : Mv S c H H') (h : H p = none) : Mv S c H (upd H' p o) := by
  obtain ⟨n1, n2⟩ := m.a.someS h
  obtain ⟨n, k, cs, h1, h2, h3⟩ := m.z
  refine ⟨m.a, ⟨n, k, cs, by rw [upd_ne (Ne.symm n1)]; exact h1, by rw [upd_ne (Ne.symm n2)]; exact h2, h3⟩, fun b o' b1 b2 hb => ?_⟩
  have : b ≠ p := fun e => by rw [e, h] at hb; cases hb
  rw [upd_ne this]
  exact m.fr b o' b1 b2 hb
theorem Mv.new {S c : Addr} {H : Hp} {p : Addr} {o : HO} (a : StAt H S c) (h : H p = none) : Mv S c H (upd H p o) := .ex a (Ex.new h)
theorem rep_mv {S c : Addr} {H H' : Hp} (m : Mv S c H H') {n : Nat} {P : Addr → Prop} {d : D} {v : V} (n1 : ¬ P S) (n2 : ¬ P c) (h : Rep H n P d v) : Rep H' n P d v := by
  obtain ⟨_, k, cs, h1, h2, _⟩ := m.a
  refine rep_to (fun b o hb hp => m.fr b o (fun e => ?_) (fun e => ?_) hb) h
  · rw [e] at hp hb
    rcases hp with hp | ⟨xs, rfl⟩
    · exact n1 hp
    · rw [h1] at hb; cases hb
  · rw [e] at hp hb
    rcases hp with hp | ⟨xs, rfl⟩
    · exact n2 hp
    · rw [h2] at hb; cases hb
theorem Mv.tup {S c : Addr} {H H' : Hp} (m : Mv S c H H') {t : Addr} {xs : List V} (h : H t = some (.tup xs)) : H' t = some (.tup xs) := by
  obtain ⟨_, k, cs, h1, h2, _⟩ := m.a
  exact m.fr t _ (fun e => by rw [e, h1] at h; cases h) (fun e => by rw [e, h2] at h; cases h) h
theorem ev_int1 {te : TE} {σ : L2.St} {H : Hp} {i : Int} (h : Ev te σ H (.int i)) : Ev (tCB (fun xs H Q => (∃ i, xs = [V.int i] ∧ Q (.int i) H) ∨ ∃ k, xs = [V.bl k] ∧ Q (.int (if k then 1 else 0)) H) (tCons te tNil)) σ H (.int i) := fun H1 e Q q => h H1 e _ fun H2 e2 => .inl ⟨i, rfl, q H2 e2⟩
theorem at_get {α : Type} {xs : List α} {i : Int} (h0 : 0 ≤ i) (h1 : i < (xs.length : Int)) : ∃ v, xs[i.toNat]? = some v ∧ atI xs i = some v := by
  have h2 : i.toNat < xs.length := by omega
  refine ⟨xs[i.toNat], List.getElem?_eq_getElem h2, ?_⟩
  have := atI_nat (List.getElem?_eq_getElem h2)
  rw [show ((i.toNat : Nat) : Int) = i by omega] at this
  exact this
theorem shaped_ints (ns : List Int) : SeqAt.shaped (.list (ns.map PyData.int)) = true := by
  have h : PyData.canLayAll0 (ns.map PyData.int) = true ∧ PyData.depthAll (ns.map PyData.int) ≤ 1 := by
    induction ns with
    | nil => exact ⟨by simp [PyData.canLayAll0], by simp [PyData.depthAll]⟩
    | cons n ns ih => exact ⟨by simp [PyData.canLayAll0, PyData.canLay0, ih.1], by have := ih.2; simp [PyData.depthAll, PyData.depth]; omega⟩
  unfold SeqAt.shaped
  have h2 := h.2
  simp only [PyData.canLay0, PyData.depth, h.1, Bool.true_and]
  exact decide_eq_true (by omega)
theorem dp_ints {K : PySem.W.Frag} {H : Hp} {a : Addr} {ns : List Int} (h : SqL K H a (ns.map V.int)) : Dp K H (.ref a) (.list (ns.map PyData.int)) := by
  refine .lst h ?_
  clear h
  induction ns with
  | nil => exact .nil
  | cons n ns ih => exact .cons (.int n) ih
theorem el_lcN {K : PySem.W.Frag} {σ : L2.St} {H : Hp} {te tl : TE} {vs : List Nat} {j : Nat} {f : Nat → V} {xs : List V} (h : EvL tl σ H xs) (hz : xs.length ≤ 100000) (hw : ∀ x, wipe ((wipe σ vs).set j (some x)) vs = wipe σ vs)
    (he : ∀ (i : Nat) (x : V), xs[i]? = some x → ∀ H2, Ex H H2 → Ev te ((wipe σ vs).set j (some x)) H2 (f i)) : EvL (tLc (iList K tl) (gName j) tYes te vs) σ H ((List.range xs.length).map f) := fun H1 e Q q =>
  h H1 e _ fun a H2 ha e2 hx => ⟨a, rfl, ⟨xs, Evl.sq_of hx⟩, fun Dl hD =>
    el_walk (f := f) walk_list hz (fun H3 e3 => Evl.ex_l e3 (Evl.sq_of hx)) hw (fun i x h3 H3 e3 => he i x h3 H3 ((e.trans e2).trans e3)) (fun p H3 hp e3 hl => q p H3 (Evl.fresh_back e2 hp) (e2.trans e3) hl) Dl hD⟩
section
variable {P : Program} {w : World} {K : PySem.W.Frag} {mg : Str → Option Value} {base : Heap} {C_Shape : Addr}
def spStream (K : PySem.W.Frag) : Sp := fun vs H Q _ => ∃ (a : Addr) (ns : List Int), vs = [.ref a] ∧ SqL K H a (ns.map V.int) ∧ ∀ H' S c, StAt H' S c → Q (.ref S) H'
theorem ok__law_stream (T : Txt K mg C_Shape) (R : Prg K mg C_Shape) : ∃ f fd, Fn P w K mg base "_law_stream" 1 ["_law_script"] (spStream K) f fd := by
  obtain ⟨f, fd, at_, F, kp⟩ := R._law_stream
  refine ⟨f, fd, F.ok sc__law_stream (fun vs H Q E h => ?_) (fun cdv A outer s H vs Q E hr h => ?_), at_, kp, F.binds (fun _ _ _ _ _ _ us hl => match us, hl with | [_], _ => rfl)⟩
  · obtain ⟨a, ns, rfl, _⟩ := h; rfl
  · obtain ⟨a, ns, rfl, ha, k⟩ := h
    refine ⟨_, (pss_cons (ps_setLc (i := 1) (own := [("_law_cell", 2)]) rfl sc__law_stream.nd rfl rfl (sw_true rfl rfl rfl (by decide +kernel)) (show PI _ _ _ (iList K _) from pi_list (pe_slice (r := rSlL K) sl_list (pv 0) po_none (po_some pe_int))) (blkOk_by (own := [("_law_cell", 2)]) (N := ["_law_script", "_law_cells", "_law_cell"]) (sc := defScope s__law_stream) (by decide +kernel)) (fun _ _ _ _ _ => (pg_name (i := 2) sc__law_stream.nd rfl (Or.inl rfl))) (fun _ _ _ _ _ => pts_nil) (fun _ _ _ _ _ => (pe_callTy call_int1 (by rfl) T.int (by decide +kernel) (pa_cons (pv 2) pa_nil))))
  (Evl.pss_cut (ps_if (pt_cmpR (r := rEqD K) (op_eqD hr.units) (pv 1) (pe_lst pa_nil) (nomark _)) (pss_one (ps_set (i := 1) sc__law_stream.nd rfl (Or.inl rfl) (pe_lst (pa_cons pe_int pa_nil)))) pss_nil)
  (pss_one (ps_ret (pe_lst (pa_cons (pv 1) (pa_cons pe_int pa_nil))))))), ?_⟩
    obtain ⟨cs, hcs, c63⟩ : ∃ cs : List Int, cutV (ns.map V.int) none (some 63) = cs.map V.int ∧ cs.length ≤ 63 := by
      refine ⟨ns.take 63, ?_, by rw [List.length_take]; omega⟩
      unfold cutV
      rw [HT.sIx_none, show (some (63 : Int)) = some ((63 : Nat) : Int) from rfl, HT.sIx_nat, List.drop_zero, Nat.sub_zero, List.map_take]
      refine List.take_eq_take_iff.mpr ?_
      omega
    refine Evl.q_asgL (xs := cs.map V.int) ?_ fun p H1 hp e1 hp1 => ?_
    · have := el_lcN (K := K) (j := 2) (vs := [2]) (f := fun i => ((cs.map V.int)[i]?).getD .non) (te := tCB (fun xs H Q => (∃ i, xs = [V.int i] ∧ Q (.int i) H) ∨ ∃ k, xs = [V.bl k] ∧ Q (.int (if k then 1 else 0)) H) (tCons (tVar 2) tNil)) (hcs ▸ Evl.el_sl (σ := [some (.ref a), none, none]) (Evl.ev_var (i := 0) rfl) Evl.eo_none (Evl.eo_some Evl.ev_c) ha) (by rw [List.length_map]; omega) (fun _ => rfl) fun i x hx H2 e2 => ?_
      · rw [map_range (g := _root_.id) rfl (fun i a ha => by rw [ha]; rfl), List.map_id] at this
        exact this
      · rw [List.getElem?_map] at hx
        cases hy : cs[i]? with
        | none => rw [hy] at hx; cases hx
        | some y =>
        rw [hy] at hx
        cases hx
        refine Evl.ev_is (ev_int1 (i := y) (Evl.ev_var rfl)) ?_
        rw [List.getElem?_map, hy]; rfl
    · refine Evl.q_cut (M := fun σ' H' => ∃ (c : Addr) (cs : List Int) (o2 : Option V), σ' = [some (.ref a), some (.ref c), o2] ∧ H' c = some (.lst (cs.map V.int)) ∧ 0 < cs.length ∧ cs.length ≤ 63) ?_ ?_
      · refine ⟨_, rfl, (by show 0 ≤ sizeLine; decide), fun q hq => ?_⟩
        have e2 : Ex H1 (upd H1 q (.lst [])) := Ex.new hq
        refine ⟨_, _, dp_ints (ns := cs) (Evl.sq_of (e2 _ _ hp1)), dp_ints (ns := []) (Evl.sq_of upd_same), shaped_ints _, shaped_ints _, _, rfl, ?_⟩
        cases cs with
        | nil =>
          refine iteT ?_
          exact Evl.s_asgL (xs := [V.int 0]) (Evl.el_lst (Evl.ea_cons Evl.ev_c Evl.ea_nil) (by show 1 ≤ 100000; decide)) fun p2 H2 _ e3 hp2 => ⟨p2, [0], _, rfl, hp2, by decide, by decide⟩
        | cons x cs =>
          refine iteF ?_
          exact ⟨p, x :: cs, _, rfl, e2 _ _ hp1, by simp, c63⟩
      · rintro σ' H' ⟨c, cs, o2, rfl, hc, c0, c1⟩
        exact Evl.s_retL (xs := [.ref c, .int 0]) (Evl.el_lst (Evl.ea_cons (Evl.ev_var rfl) (Evl.ea_cons Evl.ev_c Evl.ea_nil)) (by show 2 ≤ 100000; decide)) fun q H2 hq e2 hq2 => k H2 q c ⟨fun e => (by rw [e, hc] at hq; cases hq), 0, cs, hq2, e2 _ _ hc, c0, c1⟩
def spDraw : Sp := fun vs H Q _ => ∃ (S c : Addr) (m : Int), vs = [.ref S, .int m] ∧ StAt H S c ∧ 1 ≤ m ∧ m < 1073741824 * 1073741824 ∧ ∀ H' r, Mv S c H H' → 0 ≤ r → r < m → Q (.int r) H'
theorem ok__law_draw (T : Txt K mg C_Shape) (R : Prg K mg C_Shape) : ∃ f fd, Fn P w K mg base "_law_draw" 1 ["_law_stream_here", "_law_many"] spDraw f fd := by
  obtain ⟨f, fd, at_, F, kp⟩ := R._law_draw
  refine ⟨f, fd, F.ok sc__law_draw (fun vs H Q E h => ?_) (fun cdv A outer s H vs Q E hr h => ?_), at_, kp, F.binds (fun _ _ _ _ _ _ us hl => match us, hl with | [_, _], _ => rfl)⟩
  · obtain ⟨S, c, m, rfl, _⟩ := h; rfl
  · obtain ⟨S, c, m, rfl, st, m1, m2, k⟩ := h
    obtain ⟨ne, k0, cs, hS, hc, c0, c63⟩ := id st
    refine ⟨_, (pss_cons (ps_set (i := 2) sc__law_draw.nd rfl (Or.inl rfl) (pe_ix (r := rIxL K) ix_list (pv 0) pe_int (fun _ _ => rfl)))
  (pss_cons (ps_set (i := 3) sc__law_draw.nd rfl (Or.inl rfl) (pe_ix (r := rIxL K) ix_list (pv 0) pe_int (fun _ _ => rfl)))
  (pss_cons (ps_asg (pe_op op_add (pv 3) pe_int) (pg_sub (pv 0) pe_int set_list))
  (pss_cons (ps_set (i := 4) sc__law_draw.nd rfl (Or.inl rfl) (pe_op op_mod (pe_callTy call_int1 (by rfl) T.int (by decide +kernel) (pa_cons (pv 3) pa_nil)) (pe_callB (r := rLenA K) call_len (by rfl) T.len (by decide +kernel) (pa_cons (pv 2) pa_nil))))
  (pss_cons (ps_set (i := 5) sc__law_draw.nd rfl (Or.inl rfl) (pe_ix (r := rIxL K) ix_list (pv 2) (pv 4) (fun _ _ => rfl)))
  (pss_cons (ps_if (pt_cmpR op_ge (pv 5) (pe_op op_pow pe_int pe_int) (nomark _)) (pss_cons (ps_asg (pe_op op_fdivW (pv 5) (pv 1)) (pg_sub (pv 2) (pv 4) set_list))
  (pss_one (ps_ret (pe_op op_mod (pe_callTy call_int1 (by rfl) T.int (by decide +kernel) (pa_cons (pv 5) pa_nil)) (pv 1))))) pss_nil)
  (pss_cons (ps_set (i := 6) sc__law_draw.nd rfl (Or.inl rfl) (pe_op op_mod (pe_op op_mul (pe_callTy call_int1 (by rfl) T.int (by decide +kernel) (pa_cons (pe_op op_add (pe_op op_add (pv 5) (pe_op op_mul pe_int (pv 3))) pe_int) pa_nil)) pe_int) pe_int))
  (pss_cons (ps_set (i := 6) sc__law_draw.nd rfl (Or.inl rfl) (pe_op op_mod (pe_callTy call_int1 (by rfl) T.int (by decide +kernel) (pa_cons (pe_op op_mul (pv 6) (pe_op op_add (pe_op op_fdiv (pv 6) pe_int) pe_int)) pa_nil)) pe_int))
  (pss_cons (ps_set (i := 6) sc__law_draw.nd rfl (Or.inl rfl) (pe_op op_mod (pe_callTy call_int1 (by rfl) T.int (by decide +kernel) (pa_cons (pe_op op_mul (pv 6) (pe_op op_add (pe_op op_fdiv (pv 6) pe_int) pe_int)) pa_nil)) pe_int))
  (pss_one (ps_ret (pe_op op_mod (pe_callTy call_int1 (by rfl) T.int (by decide +kernel) (pa_cons (pv 6) pa_nil)) (pv 1))))))))))))), ?_⟩
    refine Evl.q_asg (Evl.ev_op (Evl.ev_var rfl) Evl.ev_c (Evl.rv_ixL (Evl.sq_of hS) rfl)) fun H1 e1 => ?_
    refine Evl.q_asg (Evl.ev_op (Evl.ev_var rfl) Evl.ev_c (Evl.rv_ixL (Evl.sq_of (e1 _ _ hS)) rfl)) fun H2 e2 => ?_
    have e02 := e1.trans e2
    refine Evl.q_setL (l := S) (j := 1) (v := .int (k0 + 1)) (e02 _ _ hS) (Evl.ev_op (Evl.ev_var rfl) Evl.ev_c Evl.rv_I0) (Evl.ev_var rfl) Evl.ev_c (by show 1 < 2; decide) fun H3 e3 => ?_
    have m3 : Mv S c H (upd H3 S (.lst ([V.ref c, .int k0].set 1 (.int (k0 + 1))))) := by
      have e03 := e02.trans e3
      refine ⟨st, ⟨ne, k0 + 1, cs, upd_same, by rw [upd_ne (Ne.symm ne)]; exact e03 _ _ hc, c0, c63⟩, fun b o b1 b2 hb => ?_⟩
      rw [upd_ne b1]
      exact e03 _ _ hb
    have hc3 : (upd H3 S (.lst ([V.ref c, .int k0].set 1 (.int (k0 + 1))))) c = some (.lst (cs.map V.int)) := by rw [upd_ne (Ne.symm ne)]; exact (e02.trans e3) _ _ hc
    generalize (upd H3 S (.lst ([V.ref c, .int k0].set 1 (.int (k0 + 1))))) = H4 at m3 hc3 ⊢
    have l0 : (0 : Int) < ((cs.map V.int).length : Int) := by rw [List.length_map]; omega
    refine Evl.q_asg (Evl.ev_op (ev_int1 (Evl.ev_var rfl)) (ev_lenL (Evl.ev_var rfl) (.inl (Evl.sq_of hc3))) (Evl.rv_I l0)) fun H5 e5 => ?_
    have a0 : 0 ≤ k0 % ((cs.map V.int).length : Int) := Int.emod_nonneg _ (by omega)
    have a1 : k0 % ((cs.map V.int).length : Int) < ((cs.map V.int).length : Int) := Int.emod_lt_of_pos _ l0
    generalize k0 % ((cs.map V.int).length : Int) = at_ at a0 a1 ⊢
    obtain ⟨v, hv, hat⟩ := at_get a0 a1
    obtain ⟨x, rfl⟩ : ∃ x, v = V.int x := by
      rw [List.getElem?_map] at hv
      cases hy : cs[at_.toNat]? with
      | none => rw [hy] at hv; cases hv
      | some y => rw [hy] at hv; exact ⟨y, (Option.some.inj hv).symm⟩
    refine Evl.q_asg (Evl.ev_op (Evl.ev_var rfl) (Evl.ev_var rfl) (Evl.rv_ixL (Evl.sq_of (e5 _ _ hc3)) hat)) fun H6 e6 => ?_
    have m6 := m3.tx (e5.trans e6)
    have hc6 := (e5.trans e6) _ _ hc3
    clear hc3 m3 e5 e6 e3 e02 e2 e1
    refine Evl.q_when (Evl.et_test (Evl.ev_op (Evl.ev_var rfl) (Evl.ev_op Evl.ev_c Evl.ev_c (Evl.rv_I ⟨by decide, by decide, by decide⟩)) Evl.rv_I0)) (fun _ H7 e7 => ?_) (fun _ H7 e7 => ?_)
    · have ej : ((at_.toNat : Nat) : Int) = at_ := by omega
      refine Evl.q_setL (l := c) (j := at_.toNat) (v := .int (x / m)) (e7 _ _ hc6) (Evl.ev_op (Evl.ev_var rfl) (Evl.ev_var rfl) (Evl.rv_I ⟨by omega, ?_⟩)) (Evl.ev_var rfl) (Evl.ev_var (by rw [ej]; rfl)) (by omega) fun H8 e8 => ?_
      · have : m.natAbs < 2 ^ 60 := by omega
        have h2 : m.natAbs.log2 < 60 := (Nat.log2_lt (by omega)).mpr this
        omega
      · have m8 : Mv S c H (upd H8 c (.lst ((cs.map V.int).set at_.toNat (.int (x / m))))) := by
          have m7 := m6.tx (e7.trans e8)
          obtain ⟨_, k1, cs1, h1, h2, h3⟩ := m7.z
          refine ⟨st, ⟨ne, k1, cs.set at_.toNat (x / m), by rw [upd_ne ne]; exact h1, by rw [upd_same, List.map_set], by rw [List.length_set]; exact c0, by rw [List.length_set]; exact c63⟩, fun b o b1 b2 hb => ?_⟩
          rw [upd_ne b2]
          exact m7.fr b o b1 b2 hb
        refine Evl.s_ret (Evl.ev_op (ev_int1 (Evl.ev_var rfl)) (Evl.ev_var rfl) (Evl.rv_I (by omega))) fun H9 e9 => k H9 _ (m8.tx e9) (Int.emod_nonneg _ (by omega)) (Int.emod_lt_of_pos _ (by omega))
    · have m7 := m6.tx e7
      refine Evl.q_asg (Evl.ev_op (Evl.ev_op (ev_int1 (Evl.ev_op (Evl.ev_op (Evl.ev_var rfl) (Evl.ev_op Evl.ev_c (Evl.ev_var rfl) (Evl.rv_I (.inl ⟨by decide, by decide⟩))) Evl.rv_I0) Evl.ev_c Evl.rv_I0)) Evl.ev_c (Evl.rv_I (.inr ⟨by decide, by decide⟩))) Evl.ev_c (Evl.rv_I (by decide))) fun H8 e8 => ?_
      have b0 : 0 ≤ (x + 7919 * k0 + 1) * 48271 % 2147483647 := Int.emod_nonneg _ (by decide)
      have b1 : (x + 7919 * k0 + 1) * 48271 % 2147483647 < 2147483647 := Int.emod_lt_of_pos _ (by decide)
      generalize (x + 7919 * k0 + 1) * 48271 % 2147483647 = y at b0 b1 ⊢
      refine Evl.q_asg (Evl.ev_op (ev_int1 (Evl.ev_op (Evl.ev_var rfl) (Evl.ev_op (Evl.ev_op (Evl.ev_var rfl) Evl.ev_c (Evl.rv_I ⟨by decide, by decide⟩)) Evl.ev_c Evl.rv_I0) (Evl.rv_I (.inl ⟨by omega, by omega⟩)))) Evl.ev_c (Evl.rv_I (by decide))) fun H9 e9 => ?_
      have b0 : 0 ≤ y * (y / 1009 + 69621) % 2147483647 := Int.emod_nonneg _ (by decide)
      have b1 : y * (y / 1009 + 69621) % 2147483647 < 2147483647 := Int.emod_lt_of_pos _ (by decide)
      generalize y * (y / 1009 + 69621) % 2147483647 = z at b0 b1 ⊢
      refine Evl.q_asg (Evl.ev_op (ev_int1 (Evl.ev_op (Evl.ev_var rfl) (Evl.ev_op (Evl.ev_op (Evl.ev_var rfl) Evl.ev_c (Evl.rv_I ⟨by decide, by decide⟩)) Evl.ev_c Evl.rv_I0) (Evl.rv_I (.inl ⟨by omega, by omega⟩)))) Evl.ev_c (Evl.rv_I (by decide))) fun H10 e10 => ?_
      refine Evl.s_ret (Evl.ev_op (ev_int1 (Evl.ev_var rfl)) (Evl.ev_var rfl) (Evl.rv_I (by omega))) fun H11 e11 => k H11 _ (m7.tx (e8.trans (e9.trans (e10.trans e11)))) (Int.emod_nonneg _ (by omega)) (Int.emod_lt_of_pos _ (by omega))
end
end Pk

namespace Pk
open PySem PySem.Spec PyProof.Rows L2 Ssb
open Evl (Ex Ev EvT EvL EvA EvU)
theorem pigeon {α : Type} [DecidableEq α] : ∀ {l m : List α}, l.Nodup → (∀ x ∈ l, x ∈ m) → l.length ≤ m.length
  | [], _, _, _ => Nat.zero_le _
  | x :: l, m, nd, h => by
    rw [List.nodup_cons] at nd
    have h1 := pigeon (m := m.erase x) nd.2 fun y hy => (List.mem_erase_of_ne (fun e => nd.1 (by rw [← e]; exact hy))).mpr (h y (List.mem_cons_of_mem _ hy))
    have h2 := List.length_erase_of_mem (h x List.mem_cons_self)
    have h3 : 0 < m.length := List.length_pos_of_mem (h x List.mem_cons_self)
    rw [List.length_cons]
    omega
theorem inV_strs {w : Str} {ws : List Str} : inV (.str w) (ws.map V.str) = true ↔ w ∈ ws := by
  unfold inV
  rw [List.any_eq_true]
  constructor
  · rintro ⟨y, hy, e⟩
    obtain ⟨z, hz, rfl⟩ := List.mem_map.mp hy
    have : z = w := by simpa [eqV] using e
    rw [← this]; exact hz
  · intro h
    exact ⟨.str w, List.mem_map.mpr ⟨w, h, rfl⟩, by simp [eqV]⟩
theorem inV_ints {w : Int} {ws : List Int} : inV (.int w) (ws.map V.int) = true ↔ w ∈ ws := by
  unfold inV
  rw [List.any_eq_true]
  constructor
  · rintro ⟨y, hy, e⟩
    obtain ⟨z, hz, rfl⟩ := List.mem_map.mp hy
    have : z = w := by simpa [eqV] using e
    rw [← this]; exact hz
  · intro h
    exact ⟨.int w, List.mem_map.mpr ⟨w, h, rfl⟩, by simp [eqV]⟩
theorem flat_strs (ws : List Str) : (ws.map V.str).all flatV = true := by
  rw [List.all_eq_true]; intro y hy; obtain ⟨z, _, rfl⟩ := List.mem_map.mp hy; rfl
theorem flat_ints (ws : List Int) : (ws.map V.int).all flatV = true := by
  rw [List.all_eq_true]; intro y hy; obtain ⟨z, _, rfl⟩ := List.mem_map.mp hy; rfl
theorem given_filter {xs : List V} {g : V → Bool} : Evl.given xs.length (fun i => g ((xs[i]?).getD .non)) (fun i => (xs[i]?).getD .non) = xs.filter g := by
  unfold Evl.given
  have h : (List.range xs.length).map (fun i => (xs[i]?).getD .non) = xs := by
    rw [map_range (g := _root_.id) rfl (fun i a ha => by rw [ha]; rfl), List.map_id]
  conv => rhs; rw [← h, List.filter_map]
  rfl
def chrs (s : Str) : List V := s.cps.toList.map fun c => V.str ⟨#[c]⟩
section
variable {K : PySem.W.Frag} {σ : L2.St} {H : Hp} {te tl ta : TE} {t : TT} {vs : List Nat} {j : Nat}
theorem el_lcSF {s : Str} {g : V → Bool} (h : Ev ta σ H (.str s)) (hz : s.length ≤ 40000) (hw : ∀ x, wipe ((wipe σ vs).set j (some x)) vs = wipe σ vs)
    (ht : ∀ x H2, Ex H H2 → x ∈ chrs s → EvT t ((wipe σ vs).set j (some x)) H2 (g x)) (he : ∀ x H2, Ex H H2 → x ∈ chrs s → Ev te ((wipe σ vs).set j (some x)) H2 x) : EvL (tLc (iStr ta) (gName j) t te vs) σ H ((chrs s).filter g) := fun H1 e Q q =>
  h H1 e _ fun H2 e2 => ⟨s, rfl, fun Dl hD => by
    have w : Walk (Its s) (chrs s).length (fun _ => True) (YAt (chrs s)) := by
      have l : (chrs s).length = s.cps.size := by simp [chrs]
      rw [l]
      refine walk_str.mono (fun _ z => z) fun i H v H' hi _ y => ?_
      obtain ⟨e, c, hc, rfl⟩ := y
      exact ⟨e, by simp [chrs, hc]⟩
    have l5 : (chrs s).length ≤ 40000 := by simp [chrs]; exact hz
    refine lc_it w (Evl.Cw H2 (fun i => g (((chrs s)[i]?).getD .non)) (fun i => ((chrs s)[i]?).getD .non) Dl) ⟨hD, Ex.new hD, upd_same⟩ (fun _ _ _ _ => trivial) (fun i x H3 H4 hi p y => ?_) fun H3 p => ?_
    · obtain ⟨rfl, hx⟩ := y
      have hm := List.mem_of_getElem? hx
      refine ⟨hw x, Evl.cw_turn p (by omega) ?_ fun _ => ?_⟩
      · rw [hx]; exact ht x H2 (e.trans e2) hm
      · rw [hx]; exact he x H2 (e.trans e2) hm
    · refine q Dl H3 (Evl.fresh_back e2 p.1) (e2.trans p.2.1) ?_
      have := p.2.2
      rw [given_filter] at this
      exact this⟩
theorem el_lcF {a : Addr} {xs : List V} {g : V → Bool} (h : Ev tl σ H (.ref a)) (hx : SqL K H a xs) (hz : xs.length ≤ 40000) (hw : ∀ x, wipe ((wipe σ vs).set j (some x)) vs = wipe σ vs)
    (ht : ∀ x H2, Ex H H2 → x ∈ xs → EvT t ((wipe σ vs).set j (some x)) H2 (g x)) (he : ∀ x H2, Ex H H2 → x ∈ xs → Ev te ((wipe σ vs).set j (some x)) H2 x) : EvL (tLc (iList K tl) (gName j) t te vs) σ H (xs.filter g) := by
  have := Evl.el_lcL (K := K) (te := te) (t := t) (vs := vs) (j := j) (fun i => g ((xs[i]?).getD .non)) (fun i => (xs[i]?).getD .non) h hx hz hw (fun i x H1 e hi => by rw [hi]; exact ht x H1 e (List.mem_of_getElem? hi)) (fun i x H1 e hi _ => by rw [hi]; exact he x H1 e (List.mem_of_getElem? hi))
  rw [given_filter] at this
  exact this
end
def ab : Str := "abcdefghijklmnopqrstuvwxyz"
theorem ab_ok : ∀ c ∈ ab.cps.toList, 97 ≤ c ∧ c ≤ 122 := by decide +kernel
theorem ab_len : ab.cps.toList.length = 26 := by decide +kernel
def abS : List Str := ab.cps.toList.map fun c => ⟨#[c]⟩
theorem ab_chrs : chrs ab = abS.map V.str := by unfold chrs abS; rw [List.map_map]; rfl
theorem abS_nd : abS.Nodup := by decide +kernel
theorem abS_len : abS.length = 26 := by decide +kernel
theorem abS_w : ∀ x ∈ abS, isW x := fun x hx => by
  obtain ⟨c, hc, rfl⟩ := List.mem_map.mp hx
  refine ⟨by show 1 ≤ 1; decide, by show 1 ≤ 8; decide, fun d hd => ?_⟩
  have : d = c := by simpa using hd
  rw [this]; exact ab_ok c hc
section
variable {P : Program} {w : World} {K : PySem.W.Frag} {mg : Str → Option Value} {base : Heap} {C_Shape : Addr}
def spWord : Sp := fun vs H Q _ => ∃ (S c : Addr), vs = [.ref S] ∧ StAt H S c ∧ ∀ H' w, Mv S c H H' → isW w → Q (.str w) H'
theorem ok__law_word (T : Txt K mg C_Shape) (R : Prg K mg C_Shape) : ∃ f fd, Fn P w K mg base "_law_word" 2 ["_law_stream_here"] spWord f fd := by
  obtain ⟨_, _, G__law_draw⟩ := ok__law_draw (P := P) (w := w) (base := base) T R
  obtain ⟨f, fd, at_, F, kp⟩ := R._law_word
  refine ⟨f, fd, F.ok sc__law_word (fun vs H Q E h => ?_) (fun cdv A outer s H vs Q E hr h => ?_), at_, kp, F.binds (fun _ _ _ _ _ _ us hl => match us, hl with | [_], _ => rfl)⟩
  · obtain ⟨S, c, rfl, _⟩ := h; rfl
  · obtain ⟨S, c, rfl, st, k⟩ := h
    refine ⟨_, (pss_cons (ps_set (i := 1) sc__law_word.nd rfl (Or.inl rfl) pe_str)
  (pss_cons (ps_set (i := 2) sc__law_word.nd rfl (Or.inl rfl) (pe_op op_add pe_int (pcl G__law_draw hr (pa_cons (pv 0) (pa_cons pe_int pa_nil)))))
  (Evl.pss_cut (ps_if (pt_cmpR op_gt (pcl G__law_draw hr (pa_cons (pv 0) (pa_cons pe_int pa_nil))) pe_int (nomark _)) (pss_one (ps_set (i := 2) sc__law_word.nd rfl (Or.inl rfl) (pe_op op_add pe_int (pe_op op_mod (pe_callTy call_int1 (by rfl) T.int (by decide +kernel) (pa_cons (pv 2) pa_nil)) pe_int)))) pss_nil)
  (pss_cons (ps_set (i := 3) sc__law_word.nd rfl (Or.inl rfl) (pcl G__law_draw hr (pa_cons (pv 0) (pa_cons pe_int pa_nil))))
  (pss_cons (ps_set (i := 4) sc__law_word.nd rfl (Or.inl rfl) pe_str)
  (pss_cons (ps_for PassesOwn.never rfl (pi_range1 (by rfl) T.range (pa_cons (pv 2) pa_nil)) (pg_name (i := 5) sc__law_word.nd rfl (Or.inl rfl))
    (pss_cons (ps_set (i := 4) sc__law_word.nd rfl (Or.inl rfl) (pe_op op_add_str (pv 4) (pe_ix ix_str (pv 1) (pe_op op_mod (pe_callTy call_int1 (by rfl) T.int (by decide +kernel) (pa_cons (pv 3) pa_nil)) pe_int) (fun _ _ => rfl))))
  (pss_one (ps_set (i := 3) sc__law_word.nd rfl (Or.inl rfl) (pe_op op_fdiv (pv 3) pe_int)))))
  (pss_one (ps_ret (pv 4))))))))), ?_⟩
    refine Evl.q_asg Evl.ev_c fun H1 e1 => ?_
    refine ⟨_, rfl, S, c, 8, rfl, st.ex e1, by decide, by decide, fun H2 r m2 r0 r1 => ⟨_, _, rfl, rfl, ?_⟩⟩
    have m02 := (Mv.ex st e1).trans m2
    refine Evl.q_cut (M := fun σ' H' => ∃ sz : Int, σ' = [some (.ref S), some (.str ab), some (.int sz), none, none, none] ∧ 1 ≤ sz ∧ sz ≤ 8 ∧ Mv S c H H') ?_ ?_
    · refine ⟨_, rfl, S, c, 3, rfl, m02.z, by decide, by decide, fun H3 r3 m3 _ _ => ⟨_, _, rfl, rfl, _, rfl, ?_⟩⟩
      refine ite2 (fun _ => ?_) (fun _ => ?_)
      · refine Evl.s_asg (Evl.ev_op Evl.ev_c (Evl.ev_op (ev_int1 (Evl.ev_var rfl)) Evl.ev_c (Evl.rv_I (by decide))) Evl.rv_I0) fun H4 e4 => ?_
        have q0 : 0 ≤ (1 + r) % 2 := Int.emod_nonneg _ (by decide)
        have q1 : (1 + r) % 2 < 2 := Int.emod_lt_of_pos _ (by decide)
        exact ⟨_, rfl, by omega, by omega, (m02.trans m3).tx e4⟩
      · exact ⟨_, rfl, by omega, by omega, m02.trans m3⟩
    · rintro σ' H3 ⟨sz, rfl, z1, z8, m3⟩
      refine ⟨_, rfl, S, c, 208827064576, rfl, m3.z, by decide, by decide, fun H4 r4 m4 _ _ => ?_⟩
      have m04 := m3.trans m4
      refine Evl.q_asg Evl.ev_c fun H5 e5 => ?_
      refine Evl.q_forR1 (n := sz) (Evl.ea_cons (Evl.ev_var rfl) Evl.ea_nil) ⟨by omega, by omega⟩ (fun i σ' H' => ∃ (num : Int) (w : Str) (o5 : Option V), σ' = [some (.ref S), some (.str ab), some (.int sz), some (.int num), some (.str w), o5] ∧ Mv S c H H' ∧ w.length = i ∧ ∀ c ∈ w.cps.toList, 97 ≤ c ∧ c ≤ 122) (fun H6 e6 => ⟨_, _, _, rfl, (m04.tx e5).tx e6, rfl, fun c hc => by cases hc⟩) (fun i σ' H' hi pv => ?_) fun σ' H' pv => ?_
      · obtain ⟨num, x, o5, rfl, mH, lx, hx⟩ := pv
        have q0 : 0 ≤ num % 26 := Int.emod_nonneg _ (by decide)
        have q1 : num % 26 < 26 := Int.emod_lt_of_pos _ (by decide)
        obtain ⟨ch, hch, hat⟩ := at_get (xs := ab.cps.toList) q0 (by rw [ab_len]; exact q1)
        refine Evl.q_asg (Evl.ev_op (Evl.ev_var rfl) (Evl.ev_op (Evl.ev_var rfl) (Evl.ev_op (ev_int1 (Evl.ev_var rfl)) Evl.ev_c (Evl.rv_I (by decide))) (Evl.rv_ixS (by show 26 ≤ 100000; decide) hat)) (z := .str (x ++ ⟨#[ch]⟩)) (fun H7 _ Q' q' => ⟨_, _, rfl, rfl, Evl.sz_of (by show x.length + 1 ≤ 100000; omega), q' _ (Ex.refl _)⟩)) fun H7 e7 => ?_
        refine Evl.s_asg (Evl.ev_op (Evl.ev_var rfl) Evl.ev_c (Evl.rv_I ⟨by decide, by decide⟩)) fun H8 e8 => ?_
        refine ⟨_, _, _, rfl, (mH.tx e7).tx e8, ?_, ?_⟩
        · show (x.cps ++ #[ch]).size = i + 1
          rw [Array.size_append]
          show x.length + 1 = i + 1
          rw [lx]
        · intro d hd
          have hd : d ∈ (x.cps ++ #[ch]).toList := hd
          rw [Array.toList_append, List.mem_append] at hd
          rcases hd with hd | hd
          · exact hx d hd
          · have : d = ch := by simpa using hd
            rw [this]
            exact ab_ok _ (List.mem_of_getElem? hch)
      · obtain ⟨num, x, o5, rfl, mH, lx, hx⟩ := pv
        exact Evl.s_ret (Evl.ev_var rfl) fun H7 e7 => k H7 x (mH.tx e7) ⟨by omega, by omega, hx⟩
theorem Mv.lst0 {S c : Addr} {H H' : Hp} (m : Mv S c H H') {t : Addr} (h : H t = some (.lst [])) : H' t = some (.lst []) := by
  obtain ⟨_, k, cs, h1, h2, h3, _⟩ := m.a
  refine m.fr t _ (fun e => by rw [e, h1] at h; cases h) (fun e => ?_) h
  rw [e, h2] at h
  cases cs with
  | nil => simp at h3
  | cons x xs => cases h
theorem Mv.lstS {S c : Addr} {H H' : Hp} (m : Mv S c H H') {t : Addr} {ts : List Str} (h : H t = some (.lst (ts.map V.str))) : H' t = some (.lst (ts.map V.str)) := by
  obtain ⟨_, k, cs, h1, h2, h3, _⟩ := m.a
  refine m.fr t _ (fun e => ?_) (fun e => ?_) h
  · rw [e, h1] at h
    have h := HO.lst.inj (Option.some.inj h)
    cases ts with
    | nil => cases h
    | cons x xs => have h := (List.cons.inj h).1; cases h
  · rw [e, h2] at h
    have h := HO.lst.inj (Option.some.inj h)
    cases cs with
    | nil => simp at h3
    | cons x xs =>
      cases ts with
      | nil => cases h
      | cons y ys => have h := (List.cons.inj h).1; cases h
/-- names, none of them taken -/
def spNamesT : Sp := fun vs H Q _ => ∃ (S c t : Addr) (k : Int) (ts : List Str), vs = [.ref S, .int k, .ref t] ∧ StAt H S c ∧ 0 ≤ k ∧ k ≤ 4 ∧ H t = some (.lst (ts.map V.str)) ∧ ts.length ≤ 20 ∧ ∀ H' q (ws : List Str), Mv S c H H' → H q = none → H' q = some (.lst (ws.map V.str)) → (ws.length : Int) = k → (∀ x ∈ ws, isW x) → ws.Nodup → (∀ x ∈ ws, x ∉ ts) → Q (.ref q) H'
def spNames : Sp := fun vs H Q _ => ∃ (S c t : Addr) (k : Int), vs = [.ref S, .int k, .ref t] ∧ StAt H S c ∧ 0 ≤ k ∧ k ≤ 4 ∧ H t = some (.lst []) ∧ ∀ H' q (ws : List Str), Mv S c H H' → H q = none → H' q = some (.lst (ws.map V.str)) → (ws.length : Int) = k → (∀ x ∈ ws, isW x) → ws.Nodup → Q (.ref q) H'
theorem ok__law_namesT (T : Txt K mg C_Shape) (R : Prg K mg C_Shape) : ∃ f fd, Fn P w K mg base "_law_names" 3 ["_law_stream_here", "_law_many", "_law_taken"] spNamesT f fd := by
  obtain ⟨_, _, G__law_word⟩ := ok__law_word (P := P) (w := w) (base := base) T R
  obtain ⟨f, fd, at_, F, kp⟩ := R._law_names
  refine ⟨f, fd, F.ok sc__law_names (fun vs H Q E h => ?_) (fun cdv A outer s H vs Q E hr h => ?_), at_, kp, F.binds (fun _ _ _ _ _ _ us hl => match us, hl with | [_, _, _], _ => rfl)⟩
  · obtain ⟨S, c, t, n, ts, rfl, _⟩ := h; rfl
  · obtain ⟨S, c, t, n, ts, rfl, st, n0, n4, ht, t20, k⟩ := h
    refine ⟨_, (pss_cons (ps_set (i := 3) sc__law_names.nd rfl (Or.inr rfl) (pe_lst pa_nil))
  (pss_cons (ps_for PassesOwn.never rfl (pi_range1 (by rfl) T.range (pa_cons (pv 1) pa_nil)) (pg_name (i := 4) sc__law_names.nd rfl (Or.inl rfl))
    (pss_cons (ps_set (i := 5) sc__law_names.nd rfl (Or.inl rfl) (pcl G__law_word hr (pa_cons (pv 0) pa_nil)))
  (Evl.pss_cut (ps_if (PW.pt (pw_or (pt_cmpR (r := rIn K false) op_in_seq (pv 5) (pv 2) (by rfl)) (pw_or1 (pt_cmpR (r := rIn K false) op_in_seq (pv 5) (pv 3) (by rfl))))) (pss_cons (ps_setLc (i := 6) (own := [("_law_spare", 7)]) rfl sc__law_names.nd rfl rfl (sw_true rfl rfl rfl (by decide +kernel)) (pi_str pe_str) (blkOk_by (own := [("_law_spare", 7)]) (N := ["_law_stream_here", "_law_many", "_law_taken", "_law_names_here", "_law_k", "_law_word_here", "_law_spares", "_law_spare"]) (sc := defScope s__law_names) (by decide +kernel)) (fun _ _ _ _ _ => (pg_name (i := 7) sc__law_names.nd rfl (Or.inl rfl))) (fun _ _ _ _ _ => (pts_one (pt_cmpR (r := rIn K true) op_notIn_seq (pv 7) (pv 2) (by rfl)))) (fun _ _ _ _ _ => (pv 7)))
  (pss_one (ps_set (i := 5) sc__law_names.nd rfl (Or.inl rfl) (pe_ix (r := rIxL K) ix_list (pe_lc (own := [("_law_spare", 7)]) rfl sc__law_names.nd (show PI _ _ _ (iList K _) from pi_list (pv 6)) (blkOk_by (own := [("_law_spare", 7)]) (N := ["_law_stream_here", "_law_many", "_law_taken", "_law_names_here", "_law_k", "_law_word_here", "_law_spares", "_law_spare"]) (sc := defScope s__law_names) (by decide +kernel)) (fun _ _ _ _ _ => (pg_name (i := 7) sc__law_names.nd rfl (Or.inl rfl))) (fun _ _ _ _ _ => (pts_one (pt_cmpR (r := rIn K true) op_notIn_seq (pv 7) (pv 3) (by rfl)))) (fun _ _ _ _ _ => (pv 7))) pe_int (fun _ _ => rfl))))) pss_nil)
  (pss_one (ps_expr (show PE _ _ (tBM K _ _ _ _) from pe_bm PySem.F.plainAttrs_list PySem.F.slot_list_append PySem.F.type_list_append mt_append (pv 3) (pa_cons (pv 5) pa_nil)))))))
  (pss_one (ps_ret (pv 3))))), ?_⟩
    refine Evl.q_asgL (xs := []) (Evl.el_lst Evl.ea_nil (Nat.zero_le _)) fun q H1 hq e1 hq1 => ?_
    refine Evl.q_forR1 (n := n) (Evl.ea_cons (Evl.ev_var rfl) Evl.ea_nil) ⟨by omega, by omega⟩ (fun i σ' H' => ∃ (ws : List Str) (o4 o5 o6 : Option V), σ' = [some (.ref S), some (.int n), some (.ref t), some (.ref q), o4, o5, o6, none] ∧ Mv S c H H' ∧ H' q = some (.lst (ws.map V.str)) ∧ ws.length = i ∧ (∀ x ∈ ws, isW x) ∧ ws.Nodup ∧ ∀ x ∈ ws, x ∉ ts) (fun H2 e2 => ⟨[], _, _, _, rfl, .ex st (e1.trans e2), e2 _ _ hq1, rfl, fun x hx => (nomatch hx), List.nodup_nil, fun x hx => (nomatch hx)⟩) (fun i σ' H' hi pv => ?_) fun σ' H' pv => ?_
    · obtain ⟨ws, o4, o5, o6, rfl, mH, hws, lws, wok, wnd, wnt⟩ := pv
      refine ⟨_, rfl, S, c, rfl, mH.z, fun H2 x m2 hx => ?_⟩
      have m02 := mH.trans m2
      have hq2 : H2 q = some (.lst (ws.map V.str)) := m2.fr q _ (st.someS hq).1 (st.someS hq).2 hws
      have ht2 := m02.lstS ht
      have w5 : (ws.map V.str).length ≤ 40000 := by rw [List.length_map]; omega
      refine Evl.q_cut (M := fun σ' H' => ∃ (y : Str) (o6 : Option V), σ' = [some (.ref S), some (.int n), some (.ref t), some (.ref q), some (.int i), some (.str y), o6, none] ∧ Mv S c H H' ∧ H' q = some (.lst (ws.map V.str)) ∧ isW y ∧ y ∉ ws ∧ y ∉ ts) ?_ ?_
      · refine Evl.s_when (Evl.et_or (Evl.et_test (Evl.ev_op (Evl.ev_var rfl) (Evl.ev_var rfl) (Evl.rv_isL (Evl.sq_of ht2) rfl (flat_strs ts)))) fun _ => Evl.et_test (Evl.ev_op (Evl.ev_var rfl) (Evl.ev_var rfl) (Evl.rv_isL (Evl.sq_of hq2) rfl (flat_strs ws)))) (fun _ H3 e3 => ?_) (fun hb H3 e3 => ?_)
        · refine Evl.q_asgL (xs := (abS.map V.str).filter fun z => !inV z (ts.map V.str)) ?_ fun p H4 hp e4 hp4 => ?_
          · have := el_lcSF (s := ab) (g := fun z => !inV z (ts.map V.str)) (ta := tC (.str ab)) (te := tVar 7) (t := tTest (tOp (rIn K true) (tVar 7) (tVar 2))) (j := 7) (vs := [7]) (H := H3) (σ := [some (.ref S), some (.int n), some (.ref t), some (.ref q), some (.int i), some (.str x), o6, none]) Evl.ev_c (by show 26 ≤ 40000; decide) (fun _ => rfl) (fun z H5 e5 hz => ?_) (fun z H5 e5 hz => Evl.ev_var rfl)
            · rw [ab_chrs] at this
              exact this
            · obtain ⟨u, _, rfl⟩ := List.mem_map.mp hz
              exact Evl.et_test (Evl.ev_op (Evl.ev_var rfl) (Evl.ev_var rfl) (Evl.rv_niL (Evl.sq_of ((e3.trans e5) _ _ ht2)) rfl (flat_strs ts)))
          · obtain ⟨y, hy1, hy2⟩ : ∃ y, (((abS.map V.str).filter fun z => !inV z (ts.map V.str)).filter fun z => !inV z (ws.map V.str))[0]? = some (.str y) ∧ isW y ∧ y ∉ ws ∧ y ∉ ts := by
              cases hc : (((abS.map V.str).filter fun z => !inV z (ts.map V.str)).filter fun z => !inV z (ws.map V.str)) with
              | nil =>
                exfalso
                have sub : ∀ x ∈ abS, x ∈ ts ++ ws := fun x hx => by
                  by_cases hxt : x ∈ ts
                  · exact List.mem_append.mpr (.inl hxt)
                  · have := List.filter_eq_nil_iff.mp hc (.str x) (List.mem_filter.mpr ⟨List.mem_map.mpr ⟨x, hx, rfl⟩, by
                      cases e : inV (.str x) (ts.map V.str) with
                      | true => exact absurd (inV_strs.mp e) hxt
                      | false => rfl⟩)
                    refine List.mem_append.mpr (.inr (inV_strs.mp ?_))
                    simpa using this
                have := pigeon abS_nd sub
                rw [abS_len, List.length_append] at this
                omega
              | cons z zs =>
                have hz : z ∈ ((abS.map V.str).filter fun z => !inV z (ts.map V.str)).filter fun z => !inV z (ws.map V.str) := by rw [hc]; exact List.mem_cons_self
                obtain ⟨h1, h2⟩ := List.mem_filter.mp hz
                obtain ⟨h1, h3⟩ := List.mem_filter.mp h1
                obtain ⟨u, hu, rfl⟩ := List.mem_map.mp h1
                refine ⟨u, rfl, abS_w u hu, fun hm => ?_, fun hm => ?_⟩
                · rw [inV_strs.mpr hm] at h2
                  cases h2
                · rw [inV_strs.mpr hm] at h3
                  cases h3
            refine Evl.s_asg (v := .str y) (Evl.ev_opL1 (xs := ((abS.map V.str).filter fun z => !inV z (ts.map V.str)).filter fun z => !inV z (ws.map V.str)) (el_lcF (Evl.ev_var rfl) (Evl.sq_of hp4) (Nat.le_trans (List.length_filter_le _ _) (by rw [List.length_map, abS_len]; decide)) (fun _ => rfl) (fun z H5 e5 hz => ?_) (fun z H5 e5 hz => Evl.ev_var rfl)) (fun _ _ => Evl.ev_c) fun p2 H5 hp5 e5 => Evl.rv_ixL (Evl.sq_of hp5) (atI_nat hy1)) fun H5 e5 => ?_
            · obtain ⟨u, _, rfl⟩ := List.mem_map.mp (List.mem_filter.mp hz).1
              exact Evl.et_test (Evl.ev_op (Evl.ev_var rfl) (Evl.ev_var rfl) (Evl.rv_niL (Evl.sq_of ((e3.trans (e4.trans e5)) _ _ hq2)) rfl (flat_strs ws)))
            · have e35 := e3.trans (e4.trans e5)
              exact ⟨y, _, rfl, m02.tx e35, e35 _ _ hq2, hy2.1, hy2.2.1, hy2.2.2⟩
        · have hb := Bool.or_eq_false_iff.mp hb
          refine ⟨x, _, rfl, m02.tx e3, e3 _ _ hq2, hx, fun hm => ?_, fun hm => ?_⟩
          · rw [inV_strs.mpr hm] at hb
            cases hb.2
          · rw [inV_strs.mpr hm] at hb
            cases hb.1
      · rintro σ' H3 ⟨y, o6, rfl, m3, hq3, yW, yn, ynt⟩
        refine Evl.s_app hq3 (Evl.ev_var rfl) (Evl.ev_var rfl) (by omega) fun H4 e4 => ?_
        refine ⟨ws ++ [y], _, _, _, rfl, (m3.tx e4).mut hq, by rw [upd_same, List.map_append]; rfl, by rw [List.length_append, lws]; rfl, fun z hz => ?_, ?_, fun z hz => ?_⟩
        · rcases List.mem_append.mp hz with hz | hz
          · exact wok z hz
          · rw [List.mem_singleton.mp hz]; exact yW
        · refine List.nodup_append.mpr ⟨wnd, by simp, fun a ha b hb => ?_⟩
          rw [List.mem_singleton.mp hb]
          intro e
          exact yn (by rw [← e]; exact ha)
        · rcases List.mem_append.mp hz with hz | hz
          · exact wnt z hz
          · rw [List.mem_singleton.mp hz]; exact ynt
    · obtain ⟨ws, o4, o5, o6, rfl, mH, hws, lws, wok, wnd, wnt⟩ := pv
      exact Evl.s_ret (Evl.ev_var rfl) fun H7 e7 => k H7 q ws (mH.tx e7) hq (e7 _ _ hws) (by omega) wok wnd wnt
theorem ok__law_names (T : Txt K mg C_Shape) (R : Prg K mg C_Shape) : ∃ f fd, Fn P w K mg base "_law_names" 3 ["_law_stream_here", "_law_many", "_law_taken"] spNames f fd := by
  obtain ⟨f, fd, G⟩ := ok__law_namesT (P := P) (w := w) (base := base) T R
  refine ⟨f, fd, ⟨G.ok.imp fun vs H Q E h => ?_, G.at_, G.kp, G.bd⟩⟩
  obtain ⟨S, c, t, n, rfl, st, n0, n4, ht, k⟩ := h
  exact ⟨S, c, t, n, [], rfl, st, n0, n4, ht, by decide, fun H' q ws m hq hws lw w1 w2 _ => k H' q ws m hq hws lw w1 w2⟩
end
end Pk

namespace Pk
open PySem PySem.Spec PyProof.Rows L2 Ssb
open Evl (Ex Ev EvT EvL EvA EvU)
/-- only what stands counts -/
theorem rep_dom {H : Hp} : ∀ {n : Nat} {S : Addr → Prop} {d : D} {v : V}, Rep H n S d v → Rep H n (fun b => S b ∧ H b ≠ none) d v
  | 0, _, _, _, h => h.elim
  | n + 1, S, d, v, h => by
    cases d with
    | non => exact h
    | bl b => exact h
    | int i => exact h
    | str s => exact h
    | lst l =>
      obtain ⟨a, xs, e, s, ha, hl, p⟩ := h
      exact ⟨a, xs, e, ⟨s, by rw [ha]; exact fun z => nomatch z⟩, ha, hl, pair_imp p fun d x r => rep_dom r⟩
    | tup l =>
      obtain ⟨a, xs, e, ha, hl, p⟩ := h
      exact ⟨a, xs, e, ha, hl, pair_imp p fun d x r => rep_dom r⟩
    | dic l =>
      obtain ⟨a, es, e, s, ha, hl, p⟩ := h
      exact ⟨a, es, e, ⟨s, by rw [ha]; exact fun z => nomatch z⟩, ha, hl, pair_imp p fun q x r => ⟨r.1, rep_S (fun b z => ⟨⟨z.1.1, z.2⟩, z.1.2⟩) (rep_dom r.2)⟩⟩
theorem rep_Sd {H : Hp} {n : Nat} {S S' : Addr → Prop} {d : D} {v : V} (k : ∀ b, S b → H b ≠ none → S' b) (h : Rep H n S d v) : Rep H n S' d v := rep_S (fun b z => k b z.1 z.2) (rep_dom h)
theorem rep_upd {H : Hp} {n : Nat} {S : Addr → Prop} {d : D} {v : V} {a : Addr} {o u : HO} (ha : H a = some o) (no : ∀ xs, o ≠ .tup xs) (hS : ∀ b, S b → b ≠ a) (h : Rep H n S d v) : Rep (upd H a u) n S d v :=
  rep_to (fun b o' hb z => by
    have ne : b ≠ a := by
      rcases z with z | ⟨xs, rfl⟩
      · exact hS b z
      · intro e; rw [e, ha] at hb; exact no xs (Option.some.inj hb)
    rw [upd_ne ne]; exact hb) h
theorem lk_none {α : Type} : ∀ {l : List (Str × α)} {k : Str}, k ∉ l.map (·.1) → l.lookup k = none
  | [], _, _ => rfl
  | (j, d) :: l, k, h => by
    rw [lk_cons, if_neg (fun e => h (by rw [e]; exact List.mem_cons_self))]
    exact lk_none fun z => h (List.mem_cons_of_mem _ z)
theorem pair_strs {H : Hp} {n : Nat} {S : Addr → Prop} : ∀ {ws : List Str}, Paired (fun d x => Rep H (n + 1) S d x) (ws.map D.str) (ws.map V.str)
  | [] => .nil
  | w :: ws => .cons rfl pair_strs
theorem take_snoc {α : Type} {l : List α} {i : Nat} {x : α} (h : l[i]? = some x) : l.take (i + 1) = l.take i ++ [x] := by rw [List.take_add_one, h]; rfl
theorem not_take {α : Type} {l : List α} {i : Nat} {x : α} (nd : l.Nodup) (h : l[i]? = some x) : x ∉ l.take i := fun hm =>
  (List.nodup_append.mp (by rw [← take_snoc h]; exact List.Sublist.nodup (List.take_sublist _ _) nd : (l.take i ++ [x]).Nodup)).2.2 x hm x (List.mem_singleton.mpr rfl) rfl
theorem str_at {ws : List Str} {i : Nat} {x : V} (h : (ws.map V.str)[i]? = some x) : ∃ y, ws[i]? = some y ∧ x = .str y := by
  rw [List.getElem?_map] at h
  cases hy : ws[i]? with
  | none => rw [hy] at h; cases h
  | some y => rw [hy] at h; exact ⟨y, rfl, (Option.some.inj h).symm⟩
section
variable {P : Program} {w : World} {K : PySem.W.Frag} {mg : Str → Option Value} {base : Heap} {C_Shape : Addr}
def okFe (p : Str × List Str) : Prop := isW p.1 ∧ 2 ≤ p.2.length ∧ p.2.length ≤ 3 ∧ (∀ x ∈ p.2, isW x) ∧ p.2.Nodup
def spFieldsG : Sp := fun vs H Q _ => ∃ (S c : Addr), vs = [.ref S, .int 2] ∧ StAt H S c ∧ ∀ H' q f, Mv S c H H' → Rep H' 3 (fun b => H b = none) (flD f) (.ref q) → okFl f → Q (.ref q) H'
theorem ok__law_fields (T : Txt K mg C_Shape) (R : Prg K mg C_Shape) : ∃ f fd, Fn P w K mg base "_law_fields" 4 ["_law_stream_here", "_law_most"] spFieldsG f fd := by
  obtain ⟨_, _, G__law_names⟩ := ok__law_names (P := P) (w := w) (base := base) T R
  obtain ⟨_, _, G__law_draw⟩ := ok__law_draw (P := P) (w := w) (base := base) T R
  obtain ⟨f, fd, at_, F, kp⟩ := R._law_fields
  refine ⟨f, fd, F.ok sc__law_fields (fun vs H Q E h => ?_) (fun cdv A outer s H vs Q E hr h => ?_), at_, kp, F.binds (fun _ _ _ _ _ _ us hl => match us, hl with | [_, _], _ => rfl)⟩
  · obtain ⟨S, c, rfl, _⟩ := h; rfl
  · obtain ⟨S, c, rfl, st, k⟩ := h
    refine ⟨_, (pss_cons (ps_set (i := 2) sc__law_fields.nd rfl (Or.inl rfl) pe_dnewK)
  (pss_cons (ps_for PassesOwn.never rfl (show PI _ _ _ (iList K _) from pi_list (pcl G__law_names hr (pa_cons (pv 0) (pa_cons (pcl G__law_draw hr (pa_cons (pv 0) (pa_cons (pe_op op_add (pv 1) pe_int) pa_nil))) (pa_cons (pe_lst pa_nil) pa_nil))))) (pg_name (i := 3) sc__law_fields.nd rfl (Or.inl rfl))
    (pss_one (ps_dput (hu_of hr) (pv 2) (pv 3) (pe_callTy (r := rTupA K) call_tuple_of (by rfl) T.tuple (by decide +kernel) (pa_cons (pcl G__law_names hr (pa_cons (pv 0) (pa_cons (pe_op op_add pe_int (pcl G__law_draw hr (pa_cons (pv 0) (pa_cons pe_int pa_nil)))) (pa_cons (pe_lst pa_nil) pa_nil)))) pa_nil)) rfl)))
  (pss_one (ps_ret (pv 2))))), ?_⟩
    intro d hd
    have md := Mv.new (o := .dK []) st hd
    refine ⟨_, rfl, _, rfl, _, rfl, _, _, rfl, rfl, S, c, 3, rfl, md.z, by decide, by decide, fun H2 r m2 r0 r1 => ⟨(by show 0 ≤ sizeLine; decide), fun t0 ht0 => ?_⟩⟩
    have m02 := (md.trans m2).trans (.new (o := .lst []) m2.z ht0)
    refine ⟨S, c, t0, r, rfl, m02.z, r0, by omega, upd_same, fun H3 q ws m3 hq hq3 lw wok wnd => ?_⟩
    have m03 := m02.trans m3
    have hd1 : H3 d = some (.dK []) := by
      refine m3.fr d _ (st.someS hd).1 (st.someS hd).2 ?_
      rw [upd_ne (fun e => by rw [← e, m2.fr d _ (st.someS hd).1 (st.someS hd).2 upd_same] at ht0; cases ht0)]
      exact m2.fr d _ (st.someS hd).1 (st.someS hd).2 upd_same
    have nqd : q ≠ d := fun e => by rw [e, hd1] at hq3; cases hq3
    have qS : q ≠ S ∧ q ≠ c := m02.z.someS hq
    refine ⟨q, rfl, ⟨_, Evl.sq_of hq3⟩, for_list (K := K) (a := q) (xs := ws.map V.str) (fun i σ' H' => ∃ (es : List (Key × V)) (f : Fl) (o3 : Option V), σ' = [some (.ref S), some (.int 2), some (.ref d), o3] ∧ Mv S c H H' ∧ H' q = some (.lst (ws.map V.str)) ∧ H' d = some (.dK es) ∧ f.map (·.1) = ws.take i ∧ (∀ p ∈ f, okFe p) ∧
      Paired (fun (x : Str × D) (e : Key × V) => e.1 = Sum.inr x.1 ∧ Rep H' 2 (fun b => H b = none ∧ b ≠ d) x.2 e.2) (f.map fun p => (p.1, .tup (p.2.map .str))) es) ⟨[], [], _, rfl, m03, hq3, hd1, rfl, fun p hp => (nomatch hp), .nil⟩ (fun i σ' H' _ ⟨_, _, _, _, _, h, _⟩ => Evl.sq_of h) (fun i x σ' H' hx pv => ?_) fun σ' H' pv => ?_⟩
    · obtain ⟨es, f, o3, rfl, mH, hqH, hdH, fk, fok, pr⟩ := pv
      obtain ⟨y, hy, rfl⟩ := str_at hx
      refine ⟨_, rfl, _, rfl, S, c, 2, rfl, mH.z, by decide, by decide, fun H5 r5 m5 s0 s1 => ⟨_, _, rfl, rfl, (by show 0 ≤ sizeLine; decide), fun t1 ht1 => ?_⟩⟩
      have m6 := m5.trans (.new (o := .lst []) m5.z ht1)
      refine ⟨S, c, t1, 2 + r5, rfl, m6.z, by omega, by omega, upd_same, fun H7 q7 xs m7 hq7 hq77 lx xok xnd => ?_⟩
      refine ⟨q7, _, rfl, .inl ⟨Evl.sq_of hq77, fun tp htp => ?_⟩⟩
      have m8 := (m6.trans m7).tx (Ex.new (o := .tup (xs.map V.str)) htp)
      have dS := st.someS hd
      have hd8 := m8.fr d _ dS.1 dS.2 hdH
      have hq8 := m8.fr q _ qS.1 qS.2 hqH
      have ht8 : (upd H7 tp (.tup (xs.map V.str))) tp = some (.tup (xs.map V.str)) := upd_same
      generalize (upd H7 tp (.tup (xs.map V.str))) = H8 at m8 hd8 hq8 ht8 ⊢
      have les : es.length ≤ 100 := by
        have h1 := pair_len pr
        have h2 : f.length ≤ ws.length := by
          have := congrArg List.length fk
          rw [List.length_map, List.length_take] at this
          omega
        rw [List.length_map] at h1
        omega
      have nv : valV es (Sum.inr y : Key) = none := pair_no (F := fun x v => Rep H' 2 (fun b => H b = none ∧ b ≠ d) x v) pr (lk_none (by rw [List.map_map]; show y ∉ f.map (·.1); rw [fk]; exact not_take wnd hy))
      refine ⟨_, rfl, _, rfl, d, _, rfl, .inl ⟨es, Sum.inr y, hd8, rfl, Evl.sz_lt (by omega), rfl⟩, ?_⟩
      refine ⟨es ++ [(Sum.inr y, .ref tp)], f ++ [(y, xs)], _, rfl, (mH.trans m8).mut hd, by rw [upd_ne nqd]; exact hq8, by rw [upd_same, putK_new _ nv], by rw [List.map_append, fk, take_snoc hy]; rfl, fun p hp => ?_, ?_⟩
      · rcases List.mem_append.mp hp with hp | hp
        · exact fok p hp
        · rw [List.mem_singleton.mp hp]
          exact ⟨wok y (List.mem_of_getElem? hy), by show 2 ≤ xs.length; omega, by show xs.length ≤ 3; omega, xok, xnd⟩
      · rw [List.map_append]
        have tr : ∀ {x : D} {v : V}, Rep H8 2 (fun b => H b = none ∧ b ≠ d) x v → Rep (upd H8 d (.dK (putK es (Sum.inr y) (.ref tp)))) 2 (fun b => H b = none ∧ b ≠ d) x v := fun h => rep_lock hd8 (fun b z => z.2) h
        refine pair_snoc (pair_imp pr fun a b h => ⟨h.1, tr (rep_mv m8 (fun z => (st.someS z.1).1 rfl) (fun z => (st.someS z.1).2 rfl) h.2)⟩) ⟨rfl, tr ?_⟩
        exact ⟨tp, _, rfl, ht8, by show (xs.map D.str).length ≤ 100000; rw [List.length_map]; omega, pair_strs⟩
    · obtain ⟨es, f, o3, rfl, mH, hqH, hdH, fk, fok, pr⟩ := pv
      rw [List.length_map, List.take_of_length_le (Nat.le_refl _)] at fk
      have lf : f.length = ws.length := by rw [← fk, List.length_map]
      exact Evl.s_ret (Evl.ev_var rfl) fun H7 e7 => k H7 d f (mH.tx e7) (rep_ex e7 ⟨d, es, rfl, hd, hdH, by rw [List.length_map]; omega, pr⟩) ⟨by omega, by rw [fk]; exact wnd, fok⟩
end
end Pk

namespace Pk
open PySem PySem.Spec PyProof.Rows L2 Ssb
open Evl (Ex Ev EvT EvL EvA EvU)
theorem merge2 {k1 k2 : Str} {v1 v2 : V} (ne : k1 ≠ k2) : mergeK [] [((Sum.inr k1 : Key), v1), (Sum.inr k2, v2)] = [(Sum.inr k1, v1), (Sum.inr k2, v2)] := by
  show putK (putK [] (Sum.inr k1 : Key) v1) (Sum.inr k2) v2 = _
  rw [putK_new _ (by rfl : valV ([] : List (Key × V)) (Sum.inr k1) = none), List.nil_append, putK_new]
  · rfl
  · rw [vV_cons, if_neg fun z => ne (Sum.inr.inj z)]; rfl
theorem merge3 {k1 k2 k3 : Str} {v1 v2 v3 : V} (ne : k1 ≠ k2) (n13 : k1 ≠ k3) (n23 : k2 ≠ k3) : mergeK [] [((Sum.inr k1 : Key), v1), (Sum.inr k2, v2), (Sum.inr k3, v3)] = [(Sum.inr k1, v1), (Sum.inr k2, v2), (Sum.inr k3, v3)] := by
  show putK (mergeK [] [((Sum.inr k1 : Key), v1), (Sum.inr k2, v2)]) (Sum.inr k3) v3 = _
  rw [merge2 ne, putK_new]
  · rfl
  · rw [vV_cons, if_neg fun z => n13 (Sum.inr.inj z), vV_cons, if_neg fun z => n23 (Sum.inr.inj z)]; rfl
theorem nFI : ¬ (("fields" : Str) = "inner") := by decide +kernel
theorem lk2a {d1 d2 : D} : List.lookup ("fields" : Str) [(("fields" : Str), d1), (("inner" : Str), d2)] = some d1 := by rw [lk_cons, if_pos rfl]
theorem lk2b {d1 d2 : D} : List.lookup ("inner" : Str) [(("fields" : Str), d1), (("inner" : Str), d2)] = some d2 := by rw [lk_cons, if_neg (fun e => nFI e.symm), lk_cons, if_pos rfl]
section
variable {P : Program} {w : World} {K : PySem.W.Frag} {mg : Str → Option Value} {base : Heap} {C_Shape : Addr}
/-- the j-th list of the description, its names out of ws -/
def okJ (ws : List Str) (j : Nat) (p : Str × Fl × List (Str × Fl)) : Prop := ws[j]? = some p.1 ∧ okFl p.2.1 ∧ (p.2.2 = [] ∨ ∃ x f, p.2.2 = [(x, f)] ∧ ws[j + 2]? = some x ∧ okFl f)
theorem okSh_of {ws : List Str} {s : Sh} (hn : ws.Nodup) (hl : ws.length = 4) (hw : ∀ x ∈ ws, isW x) (h2 : s.length ≤ 2) (h : ∀ j p, s[j]? = some p → okJ ws j p) : okSh s := by
  refine ⟨h2, ?_, fun p hp => ?_⟩
  · obtain ⟨w0, w1, w2, w3, rfl⟩ : ∃ a b c d, ws = [a, b, c, d] := by
      match ws, hl with
      | [a, b, c, d], _ => exact ⟨a, b, c, d, rfl⟩
    have n : w0 ≠ w1 ∧ w0 ≠ w2 ∧ w0 ≠ w3 ∧ w1 ≠ w2 ∧ w1 ≠ w3 ∧ w2 ≠ w3 := by
      simp only [List.nodup_cons, List.mem_cons, List.not_mem_nil, or_false, not_or] at hn
      exact ⟨hn.1.1, hn.1.2.1, hn.1.2.2, hn.2.1.1, hn.2.1.2, hn.2.2.1⟩
    obtain ⟨n1, n2, n3, n4, n5, n6⟩ := n
    match s, h2, h with
    | [], _, _ => exact List.nodup_nil
    | [a], _, h =>
      obtain ⟨a1, _, a3⟩ := h 0 a rfl
      obtain ⟨an, af, ai⟩ := a
      cases a1
      rcases a3 with e | ⟨x, f, e, a4, _⟩
      · cases e; simp [rowsS, rowsOf]
      · cases e; cases a4; simp [rowsS, rowsOf, n2]
    | [a, b], _, h =>
      obtain ⟨a1, _, a3⟩ := h 0 a rfl
      obtain ⟨b1, _, b3⟩ := h 1 b rfl
      obtain ⟨an, af, ai⟩ := a
      obtain ⟨bn, bf, bi⟩ := b
      cases a1
      cases b1
      rcases a3 with e | ⟨x, f, e, a4, _⟩
      · cases e
        rcases b3 with e | ⟨y, g, e, b4, _⟩
        · cases e; simp [rowsS, rowsOf, n1]
        · cases e; cases b4; simp [rowsS, rowsOf, n1, n3, n5]
      · cases e; cases a4
        rcases b3 with e | ⟨y, g, e, b4, _⟩
        · cases e; simp [rowsS, rowsOf, n1, n2, Ne.symm n4]
        · cases e; cases b4; simp [rowsS, rowsOf, n1, n2, n3, n5, Ne.symm n4, n6]
  · obtain ⟨j, hj, e⟩ := List.mem_iff_getElem.mp hp
    obtain ⟨p1, p2, p3⟩ := h j p (by rw [← e]; exact List.getElem?_eq_getElem hj)
    refine ⟨hw _ (List.mem_of_getElem? p1), p2, ?_, ?_⟩
    · rcases p3 with e | ⟨x, f, e, _⟩ <;> rw [e] <;> simp
    · rcases p3 with e | ⟨x, f, e, hx, hf⟩
      · rw [e]; intro q hq; cases hq
      · rw [e]; intro q hq
        rw [List.mem_singleton.mp hq]
        exact ⟨hw _ (List.mem_of_getElem? hx), hf⟩
def spListsG : Sp := fun vs H Q _ => ∃ (S c : Addr), vs = [.ref S, .int 2] ∧ StAt H S c ∧ ∀ H' q d s, Mv S c H H' → Rep H' 7 (fun b => H b = none) d (.ref q) → shD d s → okSh s → Q (.ref q) H'
def rep1 (H0 H' : Hp) (d : Addr) (l : List (Str × D)) (es : List (Key × V)) : Prop := Paired (fun (x : Str × D) (e : Key × V) => e.1 = Sum.inr x.1 ∧ Rep H' 6 (fun b => H0 b = none ∧ b ≠ d) x.2 e.2) l es
theorem ok__law_lists (T : Txt K mg C_Shape) (R : Prg K mg C_Shape) : ∃ f fd, Fn P w K mg base "_law_lists" 5 ["_law_stream_here", "_law_most"] spListsG f fd := by
  obtain ⟨_, _, G__law_names⟩ := ok__law_names (P := P) (w := w) (base := base) T R
  obtain ⟨_, _, G__law_draw⟩ := ok__law_draw (P := P) (w := w) (base := base) T R
  obtain ⟨_, _, G__law_fields⟩ := ok__law_fields (P := P) (w := w) (base := base) T R
  obtain ⟨f, fd, at_, F, kp⟩ := R._law_lists
  refine ⟨f, fd, F.ok sc__law_lists (fun vs H Q E h => ?_) (fun cdv A outer s H vs Q E hr h => ?_), at_, kp, F.binds (fun _ _ _ _ _ _ us hl => match us, hl with | [_, _], _ => rfl)⟩
  · obtain ⟨S, c, rfl, _⟩ := h; rfl
  · obtain ⟨S, c, rfl, st, k⟩ := h
    refine ⟨_, (pss_cons (ps_set (i := 2) sc__law_lists.nd rfl (Or.inl rfl) (pcl G__law_names hr (pa_cons (pv 0) (pa_cons pe_int (pa_cons (pe_lst pa_nil) pa_nil)))))
  (pss_cons (ps_set (i := 3) sc__law_lists.nd rfl (Or.inl rfl) pe_dnewK)
  (pss_cons (ps_for PassesOwn.never rfl (pi_range1 (by rfl) T.range (pa_cons (pe_ix (r := rIxT K) ix_tup (pe_tup (pa_cons pe_int (pa_cons pe_int (pa_cons pe_int (pa_cons pe_int (pa_cons pe_int pa_nil)))))) (pcl G__law_draw hr (pa_cons (pv 0) (pa_cons pe_int pa_nil))) (fun _ _ => rfl)) pa_nil)) (pg_name (i := 4) sc__law_lists.nd rfl (Or.inl rfl))
    (pss_cons (ps_set (i := 5) sc__law_lists.nd rfl (Or.inl rfl) pe_dnewK)
  (Evl.pss_cut (ps_if (pt_cmpR op_eq (pcl G__law_draw hr (pa_cons (pv 0) (pa_cons pe_int pa_nil))) pe_int (nomark _)) (pss_one (ps_dput (hu_of hr) (pv 5) (pe_ix (r := rIxL K) ix_list (pv 2) (pe_op op_add (pv 4) pe_int) (fun _ _ => rfl)) (pe_disp (pps_cons pe_str (pcl G__law_fields hr (pa_cons (pv 0) (pa_cons (pv 1) pa_nil))) (pps_cons pe_str pe_dnewK pps_nil)) (by rfl) (by rfl) (fun z => by cases z) (by decide)) rfl)) pss_nil)
  (pss_one (ps_dput (hu_of hr) (pv 3) (pe_ix (r := rIxL K) ix_list (pv 2) (pv 4) (fun _ _ => rfl)) (pe_disp (pps_cons pe_str (pcl G__law_fields hr (pa_cons (pv 0) (pa_cons (pv 1) pa_nil))) (pps_cons pe_str (pv 5) pps_nil)) (by rfl) (by rfl) (fun z => by cases z) (by decide)) rfl)))))
  (pss_one (ps_ret (pv 3)))))), ?_⟩
    refine ⟨_, rfl, (by show 0 ≤ sizeLine; decide), fun t0 ht0 => ⟨S, c, t0, 4, rfl, (Mv.new st ht0).z, by decide, by decide, upd_same, fun H1 q ws m1 hq hq1 lw wok wnd => ?_⟩⟩
    have m01 := (Mv.new (o := .lst []) st ht0).trans m1
    have hqn : H q = none := (Mv.new (o := .lst []) st ht0).back hq
    have qS := st.someS hqn
    have l4 : ws.length = 4 := by omega
    intro d hd
    have hdn : H d = none := m01.back hd
    have dS := st.someS hdn
    have nqd : q ≠ d := fun e => by rw [← e, hq1] at hd; cases hd
    have m02 := m01.tx (Ex.new (o := .dK []) hd)
    refine ⟨(by show 5 ≤ sizeLine; decide), fun tp htp => ?_⟩
    have m03 := m02.tx (Ex.new (o := .tup [.int 1, .int 1, .int 2, .int 0, .int 2]) htp)
    refine ⟨_, rfl, S, c, 5, rfl, m03.z, by decide, by decide, fun H4 r m4 r0 r1 => ?_⟩
    have m04 := m03.trans m4
    have hq4 : H4 q = some (.lst (ws.map V.str)) := m4.fr q _ qS.1 qS.2 (Ex.new htp _ _ (Ex.new hd _ _ hq1))
    have hd4 : H4 d = some (.dK []) := m4.fr d _ dS.1 dS.2 (Ex.new htp _ _ upd_same)
    obtain ⟨n, hn, n0, n2⟩ : ∃ n : Int, atI [V.int 1, .int 1, .int 2, .int 0, .int 2] r = some (.int n) ∧ 0 ≤ n ∧ n ≤ 2 := by
      rcases (by omega : r = 0 ∨ r = 1 ∨ r = 2 ∨ r = 3 ∨ r = 4) with rfl | rfl | rfl | rfl | rfl
      · exact ⟨1, rfl, by decide, by decide⟩
      · exact ⟨1, rfl, by decide, by decide⟩
      · exact ⟨2, rfl, by decide, by decide⟩
      · exact ⟨0, rfl, by decide, by decide⟩
      · exact ⟨2, rfl, by decide, by decide⟩
    refine ⟨tp, _, r, .int n, rfl, rfl, Evl.st_of (m4.tup upd_same), hn, n, rfl, by omega, by omega, ?_⟩
    refine for_it walk_range (fun i σ' H' => ∃ (es : List (Key × V)) (l : List (Str × D)) (s : Sh) (o4 o5 : Option V), σ' = [some (.ref S), some (.int 2), some (.ref q), some (.ref d), o4, o5] ∧ Mv S c H H' ∧ H' q = some (.lst (ws.map V.str)) ∧ H' d = some (.dK es) ∧ rep1 H H' d l es ∧
      Paired (fun (p : Str × D) (q : Str × Fl × List (Str × Fl)) => p.1 = q.1 ∧ ls1 p.2 q.2.1 q.2.2) l s ∧ s.length = i ∧ ∀ j p, s[j]? = some p → okJ ws j p) ⟨[], [], [], _, _, rfl, m04, hq4, hd4, .nil, .nil, rfl, fun j p h => (nomatch h)⟩ (fun _ _ _ _ _ => trivial) (fun i x σ' H0 H' hi pv y => ?_) fun σ' H' pv => ?_
    · obtain ⟨es, l, s, o4, o5, rfl, mH, hqH, hdH, pr, prs, ls, hj⟩ := pv
      obtain ⟨rfl, rfl⟩ := y
      show gName 4 (V.int ((0 : Int) + (i : Int))) _ _ _
      rw [Int.zero_add]
      have i2 : i < 2 := by omega
      obtain ⟨nm, hnm⟩ : ∃ nm, ws[i]? = some nm := ⟨_, List.getElem?_eq_getElem (by omega)⟩
      obtain ⟨nm2, hnm2⟩ : ∃ nm, ws[i + 2]? = some nm := ⟨_, List.getElem?_eq_getElem (by omega)⟩
      have at1 : atI (ws.map V.str) (i : Int) = some (.str nm) := atI_nat (by rw [List.getElem?_map, hnm]; rfl)
      have at2 : atI (ws.map V.str) ((i : Int) + 2) = some (.str nm2) := by
        have := atI_nat (xs := ws.map V.str) (j := i + 2) (v := .str nm2) (by rw [List.getElem?_map, hnm2]; rfl)
        rw [← this]; congr 1
      intro e he
      have hen := mH.back he
      have eS := st.someS hen
      have ned : e ≠ d := fun z => by rw [z, hdH] at he; cases he
      have neq : q ≠ e := fun z => by rw [← z, hqH] at he; cases he
      refine Evl.q_cut (M := fun σ' H2 => ∃ (el : List (Str × D)) (ii : List (Str × Fl)) (ie : List (Key × V)), σ' = [some (.ref S), some (.int 2), some (.ref q), some (.ref d), some (.int i), some (.ref e)] ∧ Mv S c H' H2 ∧ H2 e = some (.dK ie) ∧ el.length ≤ 1 ∧
        Paired (fun (x : Str × D) (en : Key × V) => en.1 = Sum.inr x.1 ∧ Rep H2 4 (fun b => H b = none ∧ b ≠ d ∧ b ≠ e) x.2 en.2) el ie ∧ Paired (fun (p : Str × D) (q : Str × Fl) => p.1 = q.1 ∧ ls0 p.2 q.2) el ii ∧ (ii = [] ∨ ∃ x f, ii = [(x, f)] ∧ ws[i + 2]? = some x ∧ okFl f)) ?_ ?_
      · have m5 := Mv.new (o := .dK []) mH.z he
        refine ⟨_, rfl, S, c, 2, rfl, m5.z, by decide, by decide, fun H6 r6 m6 _ _ => ⟨rfl, _, rfl, ?_⟩⟩
        have he6 : H6 e = some (.dK []) := m6.fr e _ eS.1 eS.2 upd_same
        have m06 := m5.trans m6
        refine ite2 (fun _ => ?_) (fun _ => ?_)
        · intro p1 hp1
          have m7 := Mv.new (o := .dK []) m6.z hp1
          refine ⟨_, rfl, _, rfl, S, c, rfl, m7.z, fun H8 fq ff m8 hff okf => ?_⟩
          intro e2 he2
          have p1S := m6.z.someS hp1
          have hp8 : H8 p1 = some (.dK []) := m8.fr p1 _ p1S.1 p1S.2 upd_same
          refine ⟨Ex.new he2 _ _ hp8, [(Sum.inr "fields", .ref fq), (Sum.inr "inner", .ref e2)], rfl, (by show 2 ≤ 15; decide), ?_⟩
          rw [merge2 nFI]
          have mA : Mv S c H6 (upd (upd H8 e2 (.dK [])) p1 (.dK [(Sum.inr "fields", .ref fq), (Sum.inr "inner", .ref e2)])) := ((m7.trans m8).tx (Ex.new he2)).mut hp1
          have heA := mA.fr e _ eS.1 eS.2 he6
          have hqA := mA.fr q _ qS.1 qS.2 (m06.fr q _ qS.1 qS.2 hqH)
          have np12 : p1 ≠ e2 := fun z => by rw [← z, hp8] at he2; cases he2
          have npe : p1 ≠ e := fun z => by rw [z, he6] at hp1; cases hp1
          have npd : p1 ≠ d := fun z => by rw [z, m06.fr d _ dS.1 dS.2 hdH] at hp1; cases hp1
          have he28 : H6 e2 = none := (m7.trans m8).back he2
          have n2e : e2 ≠ e := fun z => by rw [z, he6] at he28; cases he28
          have n2d : e2 ≠ d := fun z => by rw [z, m06.fr d _ dS.1 dS.2 hdH] at he28; cases he28
          have hpA : (upd (upd H8 e2 (.dK [])) p1 (.dK [(Sum.inr "fields", .ref fq), (Sum.inr "inner", .ref e2)])) p1 = some (.dK [(Sum.inr "fields", .ref fq), (Sum.inr "inner", .ref e2)]) := upd_same
          have heA2 : (upd (upd H8 e2 (.dK [])) p1 (.dK [(Sum.inr "fields", .ref fq), (Sum.inr "inner", .ref e2)])) e2 = some (.dK []) := by rw [upd_ne (Ne.symm np12), upd_same]
          have hfA : Rep (upd (upd H8 e2 (.dK [])) p1 (.dK [(Sum.inr "fields", .ref fq), (Sum.inr "inner", .ref e2)])) 3 (fun b => (H b = none ∧ b ≠ d ∧ b ≠ e) ∧ b ≠ p1) (flD ff) (.ref fq) := by
            have h7 : ∀ {b : Addr} {o : HO}, H6 b = some o → (upd H6 p1 (.dK [])) b ≠ none := fun {b o} hb => by
              rw [Ex.new hp1 _ _ hb]; exact fun z => nomatch z
            refine rep_upd (Ex.new he2 _ _ hp8) (fun _ z => nomatch z) (fun b hb => hb.2) (rep_ex (Ex.new he2) (rep_S (fun b hb => ⟨⟨(mH.trans (m06.trans m7)).back hb, fun z => ?_, fun z => ?_⟩, fun z => ?_⟩) hff))
            · rw [z] at hb; exact h7 (m06.fr d _ dS.1 dS.2 hdH) hb
            · rw [z] at hb; exact h7 he6 hb
            · rw [z, upd_same] at hb; cases hb
          generalize (upd (upd H8 e2 (.dK [])) p1 (.dK [(Sum.inr "fields", .ref fq), (Sum.inr "inner", .ref e2)])) = HA at mA heA hqA hpA heA2 hfA ⊢
          refine ⟨_, rfl, _, rfl, _, rfl, _, _, rfl, rfl, q, _, _, _, rfl, rfl, Evl.sq_of hqA, at2, e, _, rfl, .inl ⟨[], Sum.inr nm2, heA, rfl, (by show 0 < sizeLine; decide), rfl⟩, ?_⟩
          have up : ∀ {n : Nat} {x : D} {v : V}, Rep HA n (fun b => H b = none ∧ b ≠ d ∧ b ≠ e) x v → Rep (upd HA e (.dK (putK [] (Sum.inr nm2) (.ref p1)))) n (fun b => H b = none ∧ b ≠ d ∧ b ≠ e) x v := fun h => rep_upd heA (fun _ z => nomatch z) (fun b z => z.2.2) h
          have hp1n : H p1 = none := (mH.trans m06).back hp1
          have he2n : H e2 = none := (mH.trans m06).back he28
          refine ⟨[(nm2, .dic [("fields", flD ff), ("inner", .dic [])])], [(nm2, ff)], _, rfl, (m06.trans mA).mut he, upd_same, Nat.le_refl _, ?_, ?_, .inr ⟨nm2, ff, rfl, hnm2, okf⟩⟩
          · rw [putK_new _ (by rfl)]
            refine .cons ⟨rfl, ?_⟩ .nil
            have := up (n := 4) (x := .dic [("fields", flD ff), ("inner", .dic [])]) (v := .ref p1) ⟨p1, _, rfl, ⟨hp1n, npd, npe⟩, hpA, (by show 2 ≤ 100000; decide), .cons ⟨rfl, hfA⟩ (.cons ⟨rfl, e2, [], rfl, ⟨⟨he2n, n2d, n2e⟩, Ne.symm np12⟩, heA2, Nat.zero_le _, .nil⟩ .nil)⟩
            rw [putK_new _ (by rfl)] at this
            exact this
          · exact .cons ⟨rfl, _, rfl, rfl, lk2a, lk2b⟩ .nil
        · exact ⟨[], [], [], rfl, m06, he6, Nat.zero_le _, .nil, .nil, .inl rfl⟩
      · rintro σ' H2 ⟨el, ii, ie, rfl, m2, he2, el1, pe, pls, hii⟩
        have hq2 := m2.fr q _ qS.1 qS.2 hqH
        have hd2 := m2.fr d _ dS.1 dS.2 hdH
        intro p1 hp1
        have m7 := Mv.new (o := .dK []) m2.z hp1
        refine ⟨_, rfl, _, rfl, S, c, rfl, m7.z, fun H8 fq ff m8 hff okf => ?_⟩
        have p1S := m2.z.someS hp1
        have hp8 : H8 p1 = some (.dK []) := m8.fr p1 _ p1S.1 p1S.2 upd_same
        refine ⟨_, rfl, hp8, [(Sum.inr "fields", .ref fq), (Sum.inr "inner", .ref e)], rfl, (by show 2 ≤ 15; decide), ?_⟩
        rw [merge2 nFI]
        have mA : Mv S c H2 (upd H8 p1 (.dK [(Sum.inr "fields", .ref fq), (Sum.inr "inner", .ref e)])) := (m7.trans m8).mut hp1
        have heA := mA.fr e _ eS.1 eS.2 he2
        have hqA := mA.fr q _ qS.1 qS.2 hq2
        have hdA := mA.fr d _ dS.1 dS.2 hd2
        have npe : p1 ≠ e := fun z => by rw [z, he2] at hp1; cases hp1
        have npd : p1 ≠ d := fun z => by rw [z, hd2] at hp1; cases hp1
        have hpA : (upd H8 p1 (.dK [(Sum.inr "fields", .ref fq), (Sum.inr "inner", .ref e)])) p1 = some (.dK [(Sum.inr "fields", .ref fq), (Sum.inr "inner", .ref e)]) := upd_same
        have hfA : Rep (upd H8 p1 (.dK [(Sum.inr "fields", .ref fq), (Sum.inr "inner", .ref e)])) 3 (fun b => (H b = none ∧ b ≠ d) ∧ b ≠ p1) (flD ff) (.ref fq) := by
          refine rep_upd hp8 (fun _ z => nomatch z) (fun b hb => hb.2) (rep_S (fun b hb => ⟨⟨(mH.trans (m2.trans m7)).back hb, fun z => ?_⟩, fun z => ?_⟩) hff)
          · rw [z, Ex.new hp1 _ _ hd2] at hb; cases hb
          · rw [z, upd_same] at hb; cases hb
        have peA := pair_imp pe fun a b h => (⟨h.1, rep_mv mA (fun z => (st.someS z.1.1).1 rfl) (fun z => (st.someS z.1.1).2 rfl) (rep_Sd (S' := fun b => (H b = none ∧ b ≠ d ∧ b ≠ e) ∧ b ≠ p1) (fun b hb hb2 => ⟨hb, fun z => hb2 (by rw [z]; exact hp1)⟩) h.2)⟩ : b.1 = Sum.inr a.1 ∧ _)
        have prA : rep1 H (upd H8 p1 (.dK [(Sum.inr "fields", .ref fq), (Sum.inr "inner", .ref e)])) d l es := pair_imp pr fun a b h => ⟨h.1, rep_mv (m2.trans mA) (fun z => (st.someS z.1).1 rfl) (fun z => (st.someS z.1).2 rfl) h.2⟩
        generalize (upd H8 p1 (.dK [(Sum.inr "fields", .ref fq), (Sum.inr "inner", .ref e)])) = HA at mA heA hqA hdA hpA hfA peA prA ⊢
        have lk : l.map (·.1) = ws.take i := by
          refine List.ext_getElem? fun j => ?_
          rw [List.getElem?_map, List.getElem?_take]
          by_cases jl : j < i
          · rw [if_pos jl]
            cases hs : s[j]? with
            | none => exact absurd (List.getElem?_eq_none_iff.mp hs) (by omega)
            | some p =>
              obtain ⟨x, hx, h1, _⟩ := pair_back prs hs
              rw [hx, (hj j p hs).1]
              exact congrArg some h1
          · rw [if_neg jl, List.getElem?_eq_none_iff.mpr (by rw [pair_len prs, ls]; omega)]; rfl
        have nv : valV es (Sum.inr nm : Key) = none := pair_no (F := fun x v => Rep HA 6 (fun b => H b = none ∧ b ≠ d) x v) prA (lk_none (by rw [lk]; exact not_take wnd hnm))
        have les : es.length ≤ 2 := by rw [← pair_len pr, pair_len prs]; omega
        refine ⟨_, rfl, _, rfl, _, rfl, q, _, _, _, rfl, rfl, Evl.sq_of hqA, at1, d, _, rfl, .inl ⟨es, Sum.inr nm, hdA, rfl, Evl.sz_lt (by omega), rfl⟩, ?_⟩
        have hp1n : H p1 = none := (mH.trans m2).back hp1
        have up : ∀ {n : Nat} {x : D} {v : V}, Rep HA n (fun b => H b = none ∧ b ≠ d) x v → Rep (upd HA d (.dK (putK es (Sum.inr nm) (.ref p1)))) n (fun b => H b = none ∧ b ≠ d) x v := fun h => rep_upd hdA (fun _ z => nomatch z) (fun b z => z.2) h
        refine ⟨es ++ [(Sum.inr nm, .ref p1)], l ++ [(nm, .dic [("fields", flD ff), ("inner", .dic el)])], s ++ [(nm, ff, ii)], _, _, rfl, (mH.trans (m2.trans mA)).mut hdn, by rw [upd_ne nqd]; exact hqA, by rw [upd_same, putK_new _ nv], ?_, ?_, by rw [List.length_append, ls]; rfl, fun j p hp => ?_⟩
        · refine pair_snoc (pair_imp prA fun a b h => ⟨h.1, up h.2⟩) ⟨rfl, up (n := 6) ⟨p1, _, rfl, ⟨hp1n, npd⟩, hpA, (by show 2 ≤ 100000; decide), .cons ⟨rfl, rep_up (rep_up hfA)⟩ (.cons ⟨rfl, e, ie, rfl, ⟨⟨hen, ned⟩, Ne.symm npe⟩, heA, by omega, pair_imp peA fun a b h => ⟨h.1, rep_S (fun b hb => ⟨⟨⟨hb.1.1, hb.1.2.1⟩, hb.2⟩, hb.1.2.2⟩) h.2⟩⟩ .nil)⟩⟩
        · exact pair_snoc prs ⟨rfl, _, el, rfl, rfl, lk2a, lk2b, pls⟩
        · by_cases jl : j < s.length
          · rw [List.getElem?_append_left jl] at hp
            exact hj j p hp
          · rw [List.getElem?_append_right (by omega)] at hp
            have ej : j = i := by
              cases hc : j - s.length with
              | zero => omega
              | succ m => rw [hc] at hp; cases hp
            subst ej
            rw [ls, Nat.sub_self] at hp
            cases hp
            exact ⟨hnm, okf, hii⟩
    · obtain ⟨es, l, s, o4, o5, rfl, mH, hqH, hdH, pr, prs, ls, hj⟩ := pv
      have l2 : s.length ≤ 2 := by omega
      exact Evl.s_ret (Evl.ev_var rfl) fun H7 e7 => k H7 d (.dic l) s (mH.tx e7) (rep_ex e7 ⟨d, es, rfl, hdn, hdH, by rw [pair_len prs]; omega, pr⟩) ⟨l, rfl, prs⟩ (okSh_of wnd l4 wok l2 hj)
end
end Pk

namespace Pk
open PySem PySem.Spec PyProof.Rows L2 Ssb
open Evl (Ex Ev EvT EvL EvA EvU)
section
variable {X : Cx} {nm : Str} {k j : Nat} {ps : List Str} {sp : Sp} {f : Addr} {fd : FuncData} {p pos : Pos} {e : Expr} {es : List Expr} {t : TA} {C : Addr}
theorem pmk (G : Mt X.prog X.w X.K X.mg X.base C "__init__" k ps sp f fd) (h1 : PySem.W.makesIn X.K C = true) (h2 : PySem.W.keepIn X.K (.ref C) = true) (h3 : X.mg nm = some (.ref C)) (hr : Room j X.A) (ha : PA X (e :: es) t) (hj : k + 1 ≤ j := by first | decide | omega) (hg : Gl X nm := by rfl) (hdb : (nm == ("__debug__" : Str)) = false := by decide)
    (he : starEach (e :: es) X.env = (false, eval e X.env) :: starEach es X.env := by rfl) (hpl : (backTo pos (starEach es X.env)).any (·.1) = false := by rfl) : PE X (.Call (.Name nm p) (e :: es) [] pos) (tMake C sp [] E0 t) :=
  pe_make ⟨h1, G.mt.at_, G.mt.fn, h2⟩ G.ok (hr.mono hj) hg h3 G.bd .nil pass0 ha hdb he hpl
end
def rSortDK : List V → Hp → VK → Prop := fun xs H Q => ∃ (a : Addr) (kvs : List (Key × V)) (ks : List Str), xs = [.ref a] ∧ Rd H a (.dK kvs) ∧ kvs.map (·.1) = ks.map Sum.inr ∧ ks.length < 64 ∧ ∀ ys p, ys.Perm ks → sortedS ys = true → H p = none → Q (.ref p) (upd H p (.lst (ys.map V.str)))
theorem vV_no : ∀ {es : List (Key × V)} {k : Key}, k ∉ es.map (·.1) → valV es k = none
  | [], _, _ => rfl
  | e :: es, k, h => by
    rw [vV_cons, if_neg (fun z => h (by rw [← z]; exact List.mem_cons_self))]
    exact vV_no fun z => h (List.mem_cons_of_mem _ z)
theorem inr_not {ks : List Str} {k : Str} (h : k ∉ ks) : (Sum.inr k : Key) ∉ ks.map Sum.inr := fun hm => by
  obtain ⟨x, hx, e⟩ := List.mem_map.mp hm
  exact h (by rw [← Sum.inr.inj e]; exact hx)
theorem pair_names {α β : Type} {F : Str × α → Str × β → Prop} {l : List (Str × α)} {s : List (Str × β)} (h : Paired (fun p q => p.1 = q.1 ∧ F p q) l s) : l.map (·.1) = s.map (·.1) := by
  induction h with
  | nil => rfl
  | cons h t ih => rw [List.map_cons, List.map_cons, ih, h.1]
theorem pair_keys {α : Type} {F : Str × α → Key × V → Prop} {l : List (Str × α)} {es : List (Key × V)} (h : Paired (fun p e => e.1 = Sum.inr p.1 ∧ F p e) l es) : es.map (·.1) = (l.map (·.1)).map Sum.inr := by
  induction h with
  | nil => rfl
  | cons h t ih => rw [List.map_cons, List.map_cons, List.map_cons, ih, h.1]
theorem inr_nd {ks : List Str} (h : ks.Nodup) : (ks.map (Sum.inr : Str → Key)).Nodup := List.Pairwise.map _ (fun a b h z => h (Sum.inr.inj z)) h
theorem sh_nd : ∀ {s : Sh}, ((rowsS s).map (·.1)).Nodup → (s.map (·.1)).Nodup := fun {s} h => by
  refine List.Sublist.nodup ?_ h
  clear h
  induction s with
  | nil => exact List.Sublist.slnil
  | cons p s ih =>
    have : (rowsS (p :: s)).map (·.1) = p.1 :: ((p.2.2.map fun q => ((q.1, some p.1, q.2) : Ro)).map (·.1) ++ (rowsS s).map (·.1)) := by
      show ((rowsOf p ++ rowsS s).map (·.1)) = _
      rw [List.map_append]; rfl
    rw [this, List.map_cons]
    exact (ih.trans (List.sublist_append_right _ _)).cons_cons _
theorem Mv.strs {S c a : Addr} {H : Hp} {fl : List Str} (st : StAt H S c) (h : H a = some (.lst (fl.map V.str))) : a ≠ S ∧ a ≠ c := by
  obtain ⟨_, k, cs, h1, h2, h3, _⟩ := st
  refine ⟨fun e => ?_, fun e => ?_⟩
  · rw [e, h1] at h
    have h := Option.some.inj h
    cases fl with
    | nil => cases h
    | cons x xs =>
      rw [List.map_cons] at h
      cases h
  · rw [e, h2] at h
    have h := HO.lst.inj (Option.some.inj h)
    cases cs with
    | nil => exact absurd h3 (by decide)
    | cons y ys =>
      cases fl with
      | nil => cases h
      | cons x xs =>
        rw [List.map_cons, List.map_cons] at h
        cases h
def dT : D → String
  | .non => "NoneType" | .bl _ => "bool" | .int _ => "int" | .str _ => "str" | .lst _ => "list" | .tup _ => "tuple" | .dic _ => "dict"
theorem rep_ty {K : PySem.W.Frag} {H : Hp} {n : Nat} {S : Addr → Prop} {d : D} {v : V} (h : Rep H (n + 1) S d v) : TyOf K H v (.type (dT d)) := by
  cases d with
  | non => have e : v = .non := h; subst e; exact .non
  | bl b => have e : v = .bl b := h; subst e; exact .bl b
  | int i => have e : v = .int i := h; subst e; exact .int i
  | str s => have e : v = .str s := h; subst e; exact .str s
  | lst l => obtain ⟨a, xs, rfl, _, ha, _⟩ := h; exact .lst ha
  | tup l => obtain ⟨a, xs, rfl, ha, _⟩ := h; exact .tup ha
  | dic l => obtain ⟨a, es, rfl, _, ha, _⟩ := h; exact .dK ha
theorem ev_kind {K : PySem.W.Frag} {σ : L2.St} {H : Hp} {te : TE} {n : Nat} {S : Addr → Prop} {d : D} {v : V} {T : String} (b : Bool) (h : Ev te σ H v) (hr : Rep H (n + 1) S d v) (hk : kitB (dT d) T = some b) : Ev (tCB (rIsi K) (tCons te (tCons (tC (.ty T)) tNil))) σ H (.bl b) :=
  ev_isi h (fun H1 e1 => .base (rep_ty (rep_ex e1 hr))) (kit_ty hk)
/-- names of a dict are different, all the way down -/
def kn : Nat → D → Prop
  | _ + 1, .lst _ => False
  | n + 1, .tup l => ∀ x ∈ l, kn n x
  | n + 1, .dic l => (l.map (·.1)).Nodup ∧ ∀ p ∈ l, kn n p.2
  | _, _ => True
theorem lk_mem2 : ∀ {l : List (Str × D)} {k : Str} {d : D}, l.lookup k = some d → (k, d) ∈ l
  | (j, d0) :: l, k, d, h => by
    rw [lk_cons] at h
    by_cases c : k = j
    · rw [if_pos c] at h; cases h; rw [c]; exact List.mem_cons_self
    · rw [if_neg c] at h; exact List.mem_cons_of_mem _ (lk_mem2 h)
theorem pair_map {α β : Type} {F : β → α → Prop} {g : α → β} : ∀ {l : List α}, (∀ x ∈ l, F (g x) x) → Paired F (l.map g) l
  | [], _ => .nil
  | x :: l, h => .cons (h x List.mem_cons_self) (pair_map fun y hy => h y (List.mem_cons_of_mem _ hy))
theorem pair_mem {α β : Type} {F : α → β → Prop} {l : List α} {m : List β} (p : Paired F l m) : ∀ x ∈ l, ∃ y ∈ m, F x y := fun x hx => by
  obtain ⟨t, ht, e⟩ := List.mem_iff_getElem.mp hx
  obtain ⟨b, hb, h⟩ := pair_at p (i := t) (a := x) (by rw [← e]; exact List.getElem?_eq_getElem ht)
  exact ⟨b, List.mem_of_getElem? hb, h⟩
theorem lk_of_mem {α : Type} : ∀ {l : List (Str × α)} {k : Str} {x : α}, (l.map (·.1)).Nodup → (k, x) ∈ l → l.lookup k = some x
  | (j, d) :: l, k, x, nd, h => by
    rw [List.map_cons, List.nodup_cons] at nd
    rw [lk_cons]
    rcases List.mem_cons.mp h with h | h
    · cases h; rw [if_pos rfl]
    · rw [if_neg (fun e => nd.1 (by rw [← e]; exact List.mem_map.mpr ⟨_, h, rfl⟩))]
      exact lk_of_mem nd.2 h
theorem rows_mem {s : Sh} {r : Ro} (h : r ∈ rowsS s) : ∃ p ∈ s, r = (p.1, none, p.2.1) ∨ ∃ q ∈ p.2.2, r = (q.1, some p.1, q.2) := by
  obtain ⟨p, hp, hr⟩ := List.mem_flatMap.mp h
  refine ⟨p, hp, ?_⟩
  unfold rowsOf at hr
  rcases List.mem_cons.mp hr with e | hr
  · exact .inl e
  · obtain ⟨q, hq, e⟩ := List.mem_map.mp hr
    exact .inr ⟨q, hq, e.symm⟩
theorem row_out {s : Sh} {p : Str × Fl × List (Str × Fl)} (h : p ∈ s) : ((p.1, none, p.2.1) : Ro) ∈ rowsS s := List.mem_flatMap.mpr ⟨p, h, List.mem_cons_self⟩
theorem row_in {s : Sh} {p : Str × Fl × List (Str × Fl)} {q : Str × Fl} (h : p ∈ s) (hq : q ∈ p.2.2) : ((q.1, some p.1, q.2) : Ro) ∈ rowsS s := List.mem_flatMap.mpr ⟨p, h, List.mem_cons_of_mem _ (List.mem_map.mpr ⟨q, hq, rfl⟩)⟩
theorem kids_cons (p : Str × Fl × List (Str × Fl)) (s : Sh) (par : Option Str) : kids (p :: s) par = ((rowsOf p).filter fun r => decide (r.2.1 = par)).map (·.1) ++ kids s par := by
  unfold kids
  show (((rowsOf p ++ rowsS s).filter _).map _) = _
  rw [List.filter_append, List.map_append]
theorem filt_in (nm : Str) (q : Option Str) (i : List (Str × Fl)) : ((i.map fun q => ((q.1, some nm, q.2) : Ro)).filter fun r => decide (r.2.1 = q)) = if q = some nm then (i.map fun q => ((q.1, some nm, q.2) : Ro)) else [] := by
  by_cases c : q = some nm
  · rw [if_pos c]
    refine List.filter_eq_self.mpr fun r hr => ?_
    obtain ⟨x, _, rfl⟩ := List.mem_map.mp hr
    exact decide_eq_true c.symm
  · rw [if_neg c]
    refine List.filter_eq_nil_iff.mpr fun r hr => ?_
    obtain ⟨x, _, rfl⟩ := List.mem_map.mp hr
    rw [decide_eq_false (fun z => c z.symm)]; exact Bool.false_ne_true
theorem kids_none : ∀ s : Sh, kids s none = s.map (·.1)
  | [] => rfl
  | p :: s => by
    rw [kids_cons, kids_none s]
    unfold rowsOf
    rw [List.filter_cons, if_pos (by exact decide_eq_true rfl), filt_in, if_neg (by exact fun h => nomatch h)]
    rfl
theorem kids_some : ∀ {s : Sh} {nm : Str}, (kids s (some nm)).length = ((s.filter fun p => decide (p.1 = nm)).map fun p => p.2.2.length).sum
  | [], _ => rfl
  | p :: s, nm => by
    rw [kids_cons, List.length_append, kids_some]
    unfold rowsOf
    rw [List.filter_cons, if_neg (by rw [decide_eq_false (by exact fun h => nomatch h)]; exact Bool.false_ne_true), filt_in, List.filter_cons]
    by_cases c : p.1 = nm
    · rw [if_pos (by rw [c]), if_pos (decide_eq_true c), List.map_cons, List.sum_cons, List.length_map, List.length_map]
    · rw [if_neg (fun h => c (Option.some.inj h).symm), if_neg (by rw [decide_eq_false c]; exact Bool.false_ne_true)]
      simp
theorem filt_one : ∀ {s : Sh} {p : Str × Fl × List (Str × Fl)}, (s.map (·.1)).Nodup → p ∈ s → (s.filter fun q => decide (q.1 = p.1)) = [p]
  | q :: s, p, nd, h => by
    rw [List.map_cons, List.nodup_cons] at nd
    rw [List.filter_cons]
    rcases List.mem_cons.mp h with e | h
    · subst e
      rw [if_pos (decide_eq_true rfl)]
      congr 1
      refine List.filter_eq_nil_iff.mpr fun x hx hd => nd.1 ?_
      rw [← of_decide_eq_true hd]
      exact List.mem_map.mpr ⟨x, hx, rfl⟩
    · have c : ¬ q.1 = p.1 := fun e => nd.1 (by rw [e]; exact List.mem_map.mpr ⟨p, h, rfl⟩)
      rw [if_neg (by rw [decide_eq_false c]; exact Bool.false_ne_true)]
      exact filt_one nd.2 h
theorem two_cases {l : List (Str × D)} {a b : Str} {x y : D} (ne : a ≠ b) (h2 : l.length = 2) (ha : l.lookup a = some x) (hb : l.lookup b = some y) : l = [(a, x), (b, y)] ∨ l = [(b, y), (a, x)] := by
  match l, h2 with
  | [(j, u), (k, v)], _ =>
    rw [lk_cons] at ha hb
    by_cases c1 : a = j
    · rw [if_pos c1] at ha
      cases ha
      have c2 : ¬ b = j := fun e => ne (c1.trans e.symm)
      rw [if_neg c2, lk_cons] at hb
      by_cases c3 : b = k
      · rw [if_pos c3] at hb
        cases hb
        exact .inl (by rw [c1, c3])
      · rw [if_neg c3] at hb; cases hb
    · rw [if_neg c1, lk_cons] at ha
      by_cases c3 : a = k
      · rw [if_pos c3] at ha
        cases ha
        by_cases c2 : b = j
        · rw [if_pos c2] at hb; cases hb
          exact .inr (by rw [c2, c3])
        · rw [if_neg c2, lk_cons] at hb
          by_cases c4 : b = k
          · exact absurd (c3.trans c4.symm) ne
          · rw [if_neg c4] at hb; cases hb
      · rw [if_neg c3] at ha; cases ha
theorem kn_two {l : List (Str × D)} {x y : D} (h2 : l.length = 2) (ha : l.lookup ("fields" : Str) = some x) (hb : l.lookup ("inner" : Str) = some y) (hx : ∀ n, kn n x) (hy : ∀ n, kn n y) : ∀ n, kn n (.dic l)
  | 0 => trivial
  | n + 1 => by
    rcases two_cases nFI h2 ha hb with rfl | rfl
    · refine ⟨?_, fun p hp => ?_⟩
      · show ((["fields", "inner"] : List Str)).Nodup
        decide +kernel
      · rcases List.mem_cons.mp hp with rfl | hp
        · exact hx n
        · rw [List.mem_singleton.mp hp]; exact hy n
    · refine ⟨?_, fun p hp => ?_⟩
      · show ((["inner", "fields"] : List Str)).Nodup
        decide +kernel
      · rcases List.mem_cons.mp hp with rfl | hp
        · exact hy n
        · rw [List.mem_singleton.mp hp]; exact hx n
theorem kn_flD {f : Fl} (h : okFl f) : ∀ n, kn n (flD f)
  | 0 => trivial
  | n + 1 => by
    refine ⟨?_, fun p hp => ?_⟩
    · rw [List.map_map]; exact h.2.1
    · obtain ⟨q, _, rfl⟩ := List.mem_map.mp hp
      cases n with
      | zero => trivial
      | succ n =>
        intro x hx
        obtain ⟨s, _, rfl⟩ := List.mem_map.mp hx
        cases n <;> trivial
theorem kn_sh {d : D} {s : Sh} (h : shD d s) (hz : okSh s) : ∀ n, kn n d
  | 0 => by cases d <;> trivial
  | n + 1 => by
    obtain ⟨l, rfl, pr⟩ := h
    refine ⟨by rw [pair_names pr]; exact sh_nd hz.2.1, fun p hp => ?_⟩
    obtain ⟨q, hq, _, l', e, ep, l2, lf, li, pe⟩ := pair_mem pr p hp
    obtain ⟨_, okf, i1, iok⟩ := hz.2.2 q hq
    rw [ep]
    refine kn_two l2 lf li (kn_flD okf) (fun n => ?_) n
    cases n with
    | zero => trivial
    | succ n =>
    refine ⟨?_, fun p hp => ?_⟩
    · rw [pair_names pe]
      match q.2.2, i1 with
      | [], _ => exact List.nodup_nil
      | [x], _ => simp
    · obtain ⟨q2, hq2, _, l3, ep, l32, l3f, l3i⟩ := pair_mem pe p hp
      rw [ep]
      refine kn_two l32 l3f l3i (kn_flD (iok q2 hq2).2) (fun n => ?_) n
      cases n with
      | zero => trivial
      | succ n => exact ⟨List.nodup_nil, fun p hp => nomatch hp⟩
theorem nd_inj {α : Type} {l : List (Str × α)} (nd : (l.map (·.1)).Nodup) {x y : Str × α} (hx : x ∈ l) (hy : y ∈ l) (e : x.1 = y.1) : x = y := by
  have h1 := lk_of_mem (k := x.1) (x := x.2) nd hx
  have h2 := lk_of_mem (k := y.1) (x := y.2) nd hy
  rw [e, h2] at h1
  exact Prod.ext e (Option.some.inj h1).symm
/-- what stands under a name -/
def Under (s : Sh) (nm : Str) (i : List (Str × Fl)) : Prop := (kids s (some nm)).length = i.length ∧ ∀ r ∈ rowsS s, r.2.1 = some nm → ∃ q ∈ i, r = (q.1, some nm, q.2)
theorem under_out {s : Sh} (nd : (s.map (·.1)).Nodup) {p : Str × Fl × List (Str × Fl)} (h : p ∈ s) : Under s p.1 p.2.2 := by
  refine ⟨by rw [kids_some, filt_one nd h]; simp, fun r hr hp => ?_⟩
  obtain ⟨p', hp', e | ⟨q, hq, e⟩⟩ := rows_mem hr
  · rw [e] at hp; cases hp
  · rw [e] at hp
    have e2 : p'.1 = p.1 := Option.some.inj hp
    have := nd_inj nd hp' h e2
    subst this
    exact ⟨q, hq, e⟩
theorem under_in {s : Sh} (nd : ((rowsS s).map (·.1)).Nodup) {p : Str × Fl × List (Str × Fl)} {q : Str × Fl} (h : p ∈ s) (hq : q ∈ p.2.2) : Under s q.1 [] := by
  have no : ∀ p' ∈ s, p'.1 ≠ q.1 := fun p' hp' e => by
    have := nd_inj nd (row_out hp') (row_in h hq) e
    cases congrArg (fun r : Ro => r.2.1) this
  refine ⟨?_, fun r hr hp => ?_⟩
  · rw [kids_some, List.filter_eq_nil_iff.mpr fun x hx => by rw [decide_eq_false (no x hx)]; exact Bool.false_ne_true]
    rfl
  · obtain ⟨p', hp', e | ⟨q', hq', e⟩⟩ := rows_mem hr
    · rw [e] at hp; cases hp
    · rw [e] at hp
      exact absurd (Option.some.inj hp) (no p' hp')
/-- for x in f(..): a dict made there, not known behind it -/
def iKeysF (td : TE) : TI := fun σ H R => td σ H fun x H1 => ∃ d kvs, x = .ref d ∧ H1 d = some (.dK kvs) ∧ ∀ od, R (Itk d od kvs) (upd H1 d (.frz od (.dK kvs)))
theorem pi_keysF {X : Cx} {tg e : Expr} {td : TE} (he : PE X e td) : PI X tg e (iKeysF td) := by
  refine ⟨fun pins s σ H R I h => ?_⟩
  refine thn (he.run pins s σ H _ I h) fun u s1 ⟨x, H1, I1, rx, d, kvs, ex, hd, q⟩ => ?_
  subst ex
  obtain rfl : u = Value.ref d := rx
  obtain ⟨od, I2⟩ := I1.lock hd trivial
  obtain ⟨hs, hgd, hx, es, ep, vs, hdt, hsz, kv, hm⟩ := I2.frzK upd_same
  refine iter_keys hs hgd hx hdt (pi_one (tk := s1.toks) I2 _ (turn_keys _ hdt) ⟨_, Heap.get?_push_size _ rfl, rfl, ?_⟩ (q od))
  rw [hsz] <;> rfl
theorem Ex.both {H H' : Hp} {d : Addr} {u : HO} (e : Ex H H') : Ex (upd H d u) (upd H' d u) := fun b o hb => by
  by_cases h : b = d
  · rw [h] at hb ⊢; rw [upd_same] at hb ⊢; exact hb
  · rw [upd_ne h] at hb ⊢; exact e b o hb
theorem fl_norm {H : Hp} {n : Nat} {S : Addr → Prop} {f : Fl} {v : V} (h : Rep H n S (flD f) v) : Rep H 3 S (flD f) v := by
  have h0 := h
  obtain ⟨a, es, rfl, ha, _, mk⟩ := fl_new h
  cases n with
  | zero => exact h0.elim
  | succ n =>
  obtain ⟨a', es', e, Sa, _⟩ := h0
  cases e
  exact mk (fun _ _ h => h) Sa ha
/-- what a description tells -/
theorem desc_at {H : Hp} {n : Nat} {P : Addr → Prop} {d : D} {v : V} {s : Sh} (hv : Rep H n P d v) (hs : shD d s) : ∃ a es, v = .ref a ∧ P a ∧ H a = some (.dK es) ∧ es.map (·.1) = (s.map (·.1)).map Sum.inr ∧
    ∀ (j : Nat) (q : Str × Fl × List (Str × Fl)), s[j]? = some q → ∃ x xes fv ia ies, es[j]? = some (Sum.inr q.1, .ref x) ∧ P x ∧ x ≠ a ∧ H x = some (.dK xes) ∧ xes.length = 2 ∧ valV xes (Sum.inr "fields" : Key) = some fv ∧ Rep H 3 (fun b => P b ∧ b ≠ a) (flD q.2.1) fv ∧
      valV xes (Sum.inr "inner" : Key) = some (.ref ia) ∧ P ia ∧ ia ≠ a ∧ ia ≠ x ∧ H ia = some (.dK ies) ∧ ies.map (·.1) = (q.2.2.map (·.1)).map Sum.inr ∧
      ∀ (k : Nat) (r : Str × Fl), q.2.2[k]? = some r → ∃ y yes gv, ies[k]? = some (Sum.inr r.1, .ref y) ∧ y ≠ a ∧ y ≠ ia ∧ H y = some (.dK yes) ∧ valV yes (Sum.inr "fields" : Key) = some gv ∧ Rep H 3 (fun b => P b ∧ b ≠ a) (flD r.2) gv := by
  obtain ⟨l, rfl, pr⟩ := hs
  cases n with
  | zero => exact hv.elim
  | succ n =>
  obtain ⟨a, es, rfl, Pa, ha, _, pe⟩ := hv
  refine ⟨a, es, rfl, Pa, ha, by rw [pair_keys pe, pair_names pr], fun j q hq => ?_⟩
  obtain ⟨⟨nm, dj⟩, hl, en, l', e, edj, l2, lf, li, pre⟩ := pair_back pr hq
  obtain ⟨⟨kk, vj⟩, he, ek, hrj⟩ := pair_at pe hl
  have en : nm = q.1 := en
  have ek : kk = Sum.inr nm := ek
  have edj : dj = .dic l' := edj
  subst en ek edj
  cases n with
  | zero => exact hrj.elim
  | succ n =>
  obtain ⟨x, xes, ex, Px, hx, _, px⟩ := hrj
  have ex : vj = .ref x := ex
  subst ex
  obtain ⟨fv, hfv, rf⟩ := rep_entry px lf
  obtain ⟨iv, hiv, ri⟩ := rep_entry px li
  cases n with
  | zero => exact ri.elim
  | succ n =>
  obtain ⟨ia, ies, rfl, Pi, hia, _, pi⟩ := ri
  refine ⟨x, xes, fv, ia, ies, he, Px.1, Px.2, hx, by rw [← pair_len px, l2], hfv, fl_norm (rep_S (fun b hb => hb.1) rf), hiv, Pi.1.1, Pi.1.2, Pi.2, hia, by rw [pair_keys pi, pair_names pre], fun k r hr => ?_⟩
  obtain ⟨⟨nm2, dk⟩, hl2, en2, l3, edk, _, l3f, _⟩ := pair_back pre hr
  obtain ⟨⟨kk2, vk⟩, he2, ek2, hrk⟩ := pair_at pi hl2
  have en2 : nm2 = r.1 := en2
  have ek2 : kk2 = Sum.inr nm2 := ek2
  have edk : dk = .dic l3 := edk
  subst en2 ek2 edk
  cases n with
  | zero => exact hrk.elim
  | succ n =>
  obtain ⟨y, yes, ey, Py, hy, _, py⟩ := hrk
  have ey : vk = .ref y := ey
  subst ey
  obtain ⟨gv, hgv, rg⟩ := rep_entry py l3f
  exact ⟨y, yes, gv, he2, Py.1.1.2, Py.2, hy, hgv, fl_norm (rep_S (fun b hb => hb.1.1.1) rg)⟩
theorem rows_snoc {s : Sh} {j : Nat} {q : Str × Fl × List (Str × Fl)} (h : s[j]? = some q) : rowsS (s.take (j + 1)) = rowsS (s.take j) ++ rowsOf q := by
  rw [take_snoc h]; unfold rowsS; rw [List.flatMap_append]; simp
theorem rows_split {s : Sh} {j : Nat} {q : Str × Fl × List (Str × Fl)} (h : s[j]? = some q) : rowsS s = rowsS (s.take j) ++ (rowsOf q ++ rowsS (s.drop (j + 1))) := by
  have hlt : j < s.length := (List.getElem?_eq_some_iff.mp h).1
  have e : s = s.take j ++ q :: s.drop (j + 1) := by
    have h2 : s.drop j = q :: s.drop (j + 1) := by
      rw [List.drop_eq_getElem_cons hlt]
      congr 1
      exact Option.some.inj ((List.getElem?_eq_getElem hlt).symm.trans h)
    rw [← h2, List.take_append_drop]
  have e2 : rowsS (s.take j ++ q :: s.drop (j + 1)) = rowsS (s.take j) ++ (rowsOf q ++ rowsS (s.drop (j + 1))) := by
    unfold rowsS; rw [List.flatMap_append, List.flatMap_cons]
  rw [← e2, ← e]
theorem rowsOf_names (q : Str × Fl × List (Str × Fl)) : (rowsOf q).map (·.1) = q.1 :: q.2.2.map (·.1) := by
  unfold rowsOf; rw [List.map_cons, List.map_map]; rfl
end Pk

namespace Pk
open PySem PySem.Spec PyProof.Rows L2 Ssb
open Evl (Ex Ev EvT EvL EvA EvU)
theorem kit_list : ∀ t ∈ ["NoneType", "bool", "int", "str", "tuple", "dict"], kitB t "list" = some false := by decide +kernel
theorem kit_tuple : ∀ t ∈ ["NoneType", "bool", "int", "str", "list", "dict"], kitB t "tuple" = some false := by decide +kernel
theorem kit_dict : ∀ t ∈ ["NoneType", "bool", "int", "str", "list", "tuple"], kitB t "dict" = some false := by decide +kernel
section
variable {P : Program} {w : World} {K : PySem.W.Frag} {mg : Str → Option Value} {base : Heap} {C_Shape : Addr}
def spCopy (n : Nat) : Sp := fun vs H Q _ => ∃ (v : V) (P : Addr → Prop) (d : D), vs = [v] ∧ Rep H n P d v ∧ kn n d ∧ ∀ H' v', Ex H H' → Rep H' n (fun b => H b = none) d v' → Q v' H'
theorem ok__law_copy (T : Txt K mg C_Shape) (R : Prg K mg C_Shape) : ∀ n, ∃ f fd, Fn P w K mg base "_law_copy" (n + 1) ["_law_value"] (spCopy n) f fd
  | 0 => by
    obtain ⟨f, fd, at_, F, kp⟩ := R._law_copy
    refine ⟨f, fd, F.ok sc__law_copy (fun vs H Q E h => ?_) (fun cdv A outer s H vs Q E hr h => ?_), at_, kp, F.binds (fun _ _ _ _ _ _ us hl => match us, hl with | [_], _ => rfl)⟩
    · obtain ⟨v, P, d, rfl, _⟩ := h; rfl
    · obtain ⟨v, P, d, rfl, h, _⟩ := h; exact h.elim
  | n + 1 => by
    obtain ⟨_, _, G__law_copy⟩ := ok__law_copy T R n
    obtain ⟨f, fd, at_, F, kp⟩ := R._law_copy
    refine ⟨f, fd, F.ok sc__law_copy (fun vs H Q E h => ?_) (fun cdv A outer s H vs Q E hr h => ?_), at_, kp, F.binds (fun _ _ _ _ _ _ us hl => match us, hl with | [_], _ => rfl)⟩
    · obtain ⟨v, P, d, rfl, _⟩ := h; rfl
    · obtain ⟨v, PP, d, rfl, hv, hkn, k⟩ := h
      refine ⟨_, (pss_cons (ps_if (pt_val (pe_callB (r := rIsi K) call_isi (by rfl) T.isinstance (by decide +kernel) (pa_cons (pv 0) (pa_cons (pe_bltn (v := .ty "list") (by rfl) T.list boot_list rfl) pa_nil)))) pss_never pss_nil)
  (pss_cons (ps_if (pt_val (pe_callB (r := rIsi K) call_isi (by rfl) T.isinstance (by decide +kernel) (pa_cons (pv 0) (pa_cons (pe_bltn (v := .ty "tuple") (by rfl) T.tuple boot_tuple rfl) pa_nil)))) (pss_one (ps_ret (pe_callTy (r := rTupA K) call_tuple_of (by rfl) T.tuple (by decide +kernel) (pa_cons (pe_lc (own := [("_law_part", 3)]) rfl sc__law_copy.nd (show PI _ _ _ (iTup K _) from pi_tup (pv 0)) (blkOk_by (own := [("_law_part", 3)]) (N := ["_law_value", "_law_result", "_law_key", "_law_part"]) (sc := defScope s__law_copy) (by decide +kernel)) (fun _ _ _ _ _ => (pg_name (i := 3) sc__law_copy.nd rfl (Or.inl rfl))) (fun _ _ _ _ _ => pts_nil) (fun _ _ _ _ _ => (pcl G__law_copy hr (pa_cons (pv 3) pa_nil)))) pa_nil)))) pss_nil)
  (pss_cons (ps_if (pt_val (pe_callB (r := rIsi K) call_isi (by rfl) T.isinstance (by decide +kernel) (pa_cons (pv 0) (pa_cons (pe_bltn (v := .ty "dict") (by rfl) T.dict boot_dict rfl) pa_nil)))) (pss_cons (ps_set (i := 1) sc__law_copy.nd rfl (Or.inl rfl) pe_dnewK)
  (pss_cons (ps_lock (ps_for PassesOwn.never rfl (pi_keys (pv 0)) (pg_name (i := 2) sc__law_copy.nd rfl (Or.inl rfl))
    (pss_one (ps_dput (hu_of hr) (pv 1) (pv 2) (pcl G__law_copy hr (pa_cons (pe_dget (hu_of hr) (pv 0) (pv 2) (fun _ _ => rfl)) pa_nil)) rfl))))
  (pss_one (ps_ret (pv 1))))) pss_nil)
  (pss_one (ps_ret (pv 0)))))), ?_⟩
      -- a part of a list or a tuple
      have kidL : ∀ {l : List D} {xs : List V} {H1 : Hp} {Q2 : VK} {J : It}, Walk J xs.length (fun H' => Ex H1 H') (YAt xs) → xs.length ≤ 100000 → Paired (fun d x => Rep H1 n PP d x) l xs → (∀ x ∈ l, kn n x) → (∀ H' Dl ys, H1 Dl = none → Ex H1 H' → H' Dl = some (.lst ys) → Paired (fun d x => Rep H' n (fun b => H1 b = none ∧ b ≠ Dl) d x) l ys → Q2 (.ref Dl) H') →
          ∀ Dl, H1 Dl = none → ∃ W : Nat → Nat → Hp → Prop, (∃ m, W 0 m (upd H1 Dl (.lst []))) ∧ ∀ i m H, W i m H → (J.stop i H ∧ Q2 (.ref Dl) H) ∨ (J.go i H ∧ ∃ Nx : Hp → Prop, (∀ H', Nx H' → ∃ m', m' < m ∧ W (i + 1) m' H') ∧ ∀ x H', J.yld i H x H' → gName 3 x (wipe [some v, none, none, none] [3]) H' fun σ2 H2 => wipe σ2 [3] = wipe [some v, none, none, none] [3] ∧ tYes σ2 H2 fun b H3 =>
            if b = true then tCall (spCopy n) [] E0 (tCons (tVar 3) tNil) σ2 H3 fun y H4 => ∃ acc, H4 Dl = some (.lst acc) ∧ acc.length < sizeLine ∧ Nx (upd H4 Dl (.lst (acc ++ [y]))) else Nx H3) := by
        intro l xs H1 Q2 J wk l5 pr hk q Dl hD
        refine lc_it wk (fun i H' => Ex H1 H' ∧ ∃ ys, H' Dl = some (.lst ys) ∧ Paired (fun d x => Rep H' n (fun b => H1 b = none ∧ b ≠ Dl) d x) (l.take i) ys) ⟨Ex.new hD, [], upd_same, .nil⟩ (fun i H' _ p => p.1) (fun i x H0 H' hi pv y => ?_) fun H' pv => ?_
        · obtain ⟨e, ys, hys, pys⟩ := pv
          obtain ⟨rfl, hx⟩ := y
          obtain ⟨dx, hdx, hrx⟩ := pair_back pr hx
          refine ⟨rfl, ?_⟩
          refine yes_go ?_
          refine ⟨_, rfl, x, PP, dx, rfl, rep_ex e hrx, hk _ (List.mem_of_getElem? hdx), fun H3 v3 e3 hr3 => ⟨ys, e3 _ _ hys, ?_, Ex.mut (e.trans e3) hD, ys ++ [v3], upd_same, ?_⟩⟩
          · rw [← pair_len pys, List.length_take]; exact Evl.sz_lt (by omega)
          · rw [take_snoc hdx]
            refine pair_snoc (pair_imp pys fun a b h => rep_upd (e3 _ _ hys) (fun _ z => nomatch z) (fun b z => z.2) (rep_ex e3 h)) (rep_upd (e3 _ _ hys) (fun _ z => nomatch z) (fun b z => z.2) (rep_S (fun b hb => ⟨Evl.fresh_back e hb, fun z => by rw [z, hys] at hb; cases hb⟩) hr3))
        · obtain ⟨e, ys, hys, pys⟩ := pv
          rw [← pair_len pr, List.take_of_length_le (Nat.le_refl _)] at pys
          exact q H' Dl ys hD e hys pys
      have leaf : ∀ {H1 : Hp}, Ex H H1 → (∀ l, d ≠ .lst l) → (∀ l, d ≠ .tup l) → (∀ l, d ≠ .dic l) → Q v H1 := fun {H1} e1 a b c => by
        refine k H1 v e1 ?_
        cases d with
        | lst l => exact absurd rfl (a l)
        | tup l => exact absurd rfl (b l)
        | dic l => exact absurd rfl (c l)
        | non => exact hv
        | bl b => exact hv
        | int i => exact hv
        | str s => exact hv
      have skip1 : (∀ l, d ≠ .lst l) → kitB (dT d) "list" = some false := fun a => by
        refine kit_list _ ?_
        cases d with
        | lst l => exact absurd rfl (a l)
        | _ => simp [dT]
      have skip2 : (∀ l, d ≠ .tup l) → kitB (dT d) "tuple" = some false := fun a => by
        refine kit_tuple _ ?_
        cases d with
        | tup l => exact absurd rfl (a l)
        | _ => simp [dT]
      have skip3 : (∀ l, d ≠ .dic l) → kitB (dT d) "dict" = some false := fun a => by
        refine kit_dict _ ?_
        cases d with
        | dic l => exact absurd rfl (a l)
        | _ => simp [dT]
      by_cases c1 : ∃ l, d = .lst l
      · obtain ⟨l, rfl⟩ := c1
        exact hkn.elim
      have c1 : ∀ l, d ≠ .lst l := fun l e => c1 ⟨l, e⟩
      refine Evl.q_when (b := false) (Evl.et_B (ev_kind false (Evl.ev_var rfl) hv (skip1 c1))) (fun h => nomatch h) fun _ H1 e1 => ?_
      have hv1 := rep_ex e1 hv
      by_cases c2 : ∃ l, d = .tup l
      · obtain ⟨l, rfl⟩ := c2
        obtain ⟨a, xs, rfl, ha, l5, pr⟩ := id hv1
        refine Evl.q_when (b := true) (Evl.et_B (ev_kind (d := .tup l) true (Evl.ev_var rfl) hv1 (show kitB "tuple" "tuple" = some true by decide +kernel))) (fun _ H2 e2 => ?_) (fun h => nomatch h)
        have hv2 := pair_imp pr fun a b h => rep_ex e2 h
        have e12 := e1.trans e2
        refine ⟨_, rfl, a, rfl, ⟨_, Evl.st_of (e2 _ _ ha)⟩, kidL (Q2 := fun x H' => rTupA K [x] H' Q) (walk_tup.mono (fun H' e => Evl.st_of (e _ _ (e2 _ _ ha))) fun i H v H' _ _ y => y) (by rw [← pair_len pr]; exact l5) hv2 hkn fun H' Dl ys hD e hys pys => ?_⟩
        refine ⟨Dl, ys, rfl, .inl ⟨Evl.sq_of hys, fun t ht => ?_⟩⟩
        exact k _ _ (e12.trans (e.trans (Ex.new ht))) ⟨t, ys, rfl, upd_same, l5, pair_imp pys fun a b h => rep_ex (Ex.new ht) (rep_S (fun b hb => Evl.fresh_back e12 hb.1) h)⟩
      have c2 : ∀ l, d ≠ .tup l := fun l e => c2 ⟨l, e⟩
      refine Evl.q_when (b := false) (Evl.et_B (ev_kind false (Evl.ev_var rfl) hv1 (skip2 c2))) (fun h => nomatch h) fun _ H2 e2 => ?_
      have hv2 := rep_ex e2 hv1
      have e12 := e1.trans e2
      by_cases c3 : ∃ l, d = .dic l
      · obtain ⟨l, rfl⟩ := c3
        obtain ⟨a, es, rfl, _, ha, l5, pr⟩ := id hv2
        have ekeys := pair_keys pr
        have le := pair_len pr
        refine Evl.q_when (b := true) (Evl.et_B (ev_kind (d := .dic l) true (Evl.ev_var rfl) hv2 (show kitB "dict" "dict" = some true by decide +kernel))) (fun _ H3 e3 => ?_) (fun h => nomatch h)
        have ha3 := e3 _ _ ha
        have e13 := e12.trans e3
        intro a1 h1
        have n1a : a1 ≠ a := fun e => by rw [e, ha3] at h1; cases h1
        refine for_lock (J := fun od => Itk a od es) (xs := fun _ => none) (d := a) (es := es) (by rw [upd_ne n1a.symm]; exact ha3) (fun od R r => ⟨_, rfl, a, od, rfl, .inl ⟨es, upd_same, r⟩⟩) (fun od => walk_keys) (fun od j σ' H' => ∃ (es' : List (Key × V)) (o2 : Option V), σ' = [some (.ref a), some (.ref a1), o2, none] ∧ Ex (upd H3 a (.frz od (.dK es))) H' ∧ H' a1 = some (.dK es') ∧ Paired (fun (x : Str × D) (e : Key × V) => e.1 = Sum.inr x.1 ∧ Rep H' n (fun b => H3 b = none ∧ b ≠ a1) x.2 e.2) (l.take j) es')
          (fun od => ⟨[], _, rfl, fun b o hb => ?_, by rw [upd_ne n1a]; exact upd_same, .nil⟩) (fun od j σ' H' _ ⟨_, _, _, e, _⟩ => e _ _ upd_same) (fun od j x σ' H0 H' hlt pv y => ?_) fun od σ' H' pv => ?_
        · by_cases e : b = a
          · rw [e] at hb ⊢; rw [upd_same] at hb ⊢; exact hb
          · rw [upd_ne e] at hb ⊢
            have : b ≠ a1 := fun z => by rw [z, h1] at hb; cases hb
            rw [upd_ne this]; exact hb
        · obtain ⟨es', o2, rfl, e, h1', pes⟩ := pv
          obtain ⟨rfl, kk, vj, hkv, rfl⟩ := y
          obtain ⟨⟨nm, dj⟩, hdj, hk, hrj⟩ := pair_back pr hkv
          have hk : kk = Sum.inr nm := hk
          subst hk
          have hvj : valV es (Sum.inr nm : Key) = some vj := valV_at (by rw [ekeys]; exact inr_nd hkn.1) hkv
          have hrj' := rep_in ha3 e (rep_ex e3 hrj)
          refine ⟨_, rfl, _, rfl, a, vj, rfl, .inl ⟨es, Sum.inr nm, .inr ⟨od, e _ _ upd_same⟩, rfl, hvj.symm⟩, vj, _, dj, rfl, hrj', hkn.2 _ (List.mem_of_getElem? hdj), fun H4 v4 e4 hr4 => ?_⟩
          have nv : valV es' (Sum.inr nm : Key) = none := vV_no (by rw [pair_keys pes, List.map_take]; exact inr_not (not_take hkn.1 (by rw [List.getElem?_map, hdj]; rfl)))
          refine ⟨_, rfl, _, rfl, a1, _, rfl, .inl ⟨es', Sum.inr nm, e4 _ _ h1', rfl, ?_, rfl⟩, es' ++ [(Sum.inr nm, v4)], _, rfl, Ex.mut (e.trans e4) (by rw [upd_ne n1a]; exact h1), by rw [upd_same, putK_new _ nv], ?_⟩
          · rw [← pair_len pes, List.length_take]; exact Evl.sz_lt (by omega)
          · rw [take_snoc hdj]
            have back : ∀ b, H' b = none → H3 b = none := fun b hb => by
              have := Evl.fresh_back e hb
              by_cases z : b = a
              · rw [z, upd_same] at this; cases this
              · rw [upd_ne z] at this; exact this
            exact pair_snoc (pair_imp pes fun a b h => ⟨h.1, rep_upd (e4 _ _ h1') (fun _ z => nomatch z) (fun b z => z.2) (rep_ex e4 h.2)⟩) ⟨rfl, rep_upd (e4 _ _ h1') (fun _ z => nomatch z) (fun b z => z.2) (rep_S (fun b hb => ⟨back b hb, fun z => by rw [z, h1'] at hb; cases hb⟩) hr4)⟩
        · obtain ⟨es', o2, rfl, e, h1', pes⟩ := pv
          rw [← le, List.take_of_length_le (Nat.le_refl _)] at pes
          have eu : Ex H3 (upd H' a (.dK es)) := unlock ha3 e
          refine Evl.s_ret (Evl.ev_var rfl) fun H7 e7 => k H7 _ (e13.trans (eu.trans e7)) (rep_ex e7 ⟨a1, es', rfl, Evl.fresh_back e13 h1, by rw [upd_ne n1a]; exact h1', l5, pair_imp pes fun x en h => ⟨h.1, ?_⟩⟩)
          refine rep_S (fun b hb => ⟨Evl.fresh_back e13 hb.1, hb.2⟩) (rep_upd (e _ _ upd_same) (fun _ z => nomatch z) (fun b z ez => ?_) h.2)
          rw [ez] at z
          rw [ha3] at z
          exact nomatch z.1
      have c3 : ∀ l, d ≠ .dic l := fun l e => c3 ⟨l, e⟩
      refine Evl.q_when (b := false) (Evl.et_B (ev_kind false (Evl.ev_var rfl) hv2 (skip3 c3))) (fun h => nomatch h) fun _ H3 e3 => Evl.s_ret (Evl.ev_var rfl) fun H4 e4 => leaf (e12.trans (e3.trans e4)) c1 c2 c3
end
end Pk

namespace Pk
open PySem PySem.Spec PyProof.Rows L2 Ssb
open Evl (Ex Ev EvT EvL EvA EvU)
section
variable {P : Program} {w : World} {K : PySem.W.Frag} {mg : Str → Option Value} {base : Heap} {C_Shape : Addr}
def spAbout : Sp := fun vs H Q _ => ∃ (v : V) (n : Nat) (P : Addr → Prop) (d : D) (s : Sh), vs = [v] ∧ Rep H n P d v ∧ shD d s ∧ okSh s ∧ ∀ H' q es, Ex H H' → H q = none → H' q = some (.dK es) → es.map (·.1) = ((rowsS s).map (·.1)).map Sum.inr → Q (.ref q) H'
theorem ok__law_about (T : Txt K mg C_Shape) (R : Prg K mg C_Shape) : ∃ f fd, Fn P w K mg base "_law_about" 1 ["_law_lists_here"] spAbout f fd := by
  obtain ⟨f, fd, at_, F, kp⟩ := R._law_about
  refine ⟨f, fd, F.ok sc__law_about (fun vs H Q E h => ?_) (fun cdv A outer s H vs Q E hr h => ?_), at_, kp, F.binds (fun _ _ _ _ _ _ us hl => match us, hl with | [_], _ => rfl)⟩
  · obtain ⟨v, n, P, d, s, rfl, _⟩ := h; rfl
  · obtain ⟨v, n, PP, d, z, rfl, hv, hd, hz, k⟩ := h
    obtain ⟨a, es, rfl, _, ha, ek, desc⟩ := desc_at hv hd
    have snd := hz.2.1
    have le : es.length = z.length := by have := congrArg List.length ek; simpa using this
    have r4 := (okSh_rows hz).1
    refine ⟨_, (pss_cons (ps_set (i := 1) sc__law_about.nd rfl (Or.inl rfl) pe_dnewK)
  (pss_cons (ps_lock (ps_for PassesOwn.never rfl (pi_keys (pv 0)) (pg_name (i := 2) sc__law_about.nd rfl (Or.inl rfl))
    (pss_cons (ps_dput (hu_of hr) (pv 1) (pv 2) (pe_dget (hu_of hr) (pv 0) (pv 2) (fun _ _ => rfl)) rfl)
  (pss_one (ps_lock (ps_for PassesOwn.never rfl (pi_keys (pe_dget (hu_of hr) (pe_dget (hu_of hr) (pv 0) (pv 2) (fun _ _ => rfl)) pe_str (fun _ _ => rfl))) (pg_name (i := 3) sc__law_about.nd rfl (Or.inl rfl))
    (pss_one (ps_dput (hu_of hr) (pv 1) (pv 3) (pe_dget (hu_of hr) (pe_dget (hu_of hr) (pe_dget (hu_of hr) (pv 0) (pv 2) (fun _ _ => rfl)) pe_str (fun _ _ => rfl)) (pv 3) (fun _ _ => rfl)) rfl))))))))
  (pss_one (ps_ret (pv 1))))), ?_⟩
    intro a1 h1
    have n1a : a1 ≠ a := fun e => by rw [e, ha] at h1; cases h1
    refine for_lock (J := fun od => Itk a od es) (xs := fun _ => none) (d := a) (es := es) (by rw [upd_ne n1a.symm]; exact ha) (fun od R r => ⟨_, rfl, a, od, rfl, .inl ⟨es, upd_same, r⟩⟩) (fun od => walk_keys)
      (fun od j σ' H' => ∃ (es' : List (Key × V)) (o2 o3 : Option V), σ' = [some (.ref a), some (.ref a1), o2, o3] ∧ Ex (upd H a (.frz od (.dK es))) H' ∧ H' a1 = some (.dK es') ∧ es'.map (·.1) = ((rowsS (z.take j)).map (·.1)).map Sum.inr)
      (fun od => ⟨[], _, _, rfl, Ex.both (Ex.new h1), by rw [upd_ne n1a]; exact upd_same, rfl⟩) (fun od j σ' H' _ ⟨_, _, _, _, e, _⟩ => e _ _ upd_same) (fun od j x σ' H0 H' hlt pv y => ?_) fun od σ' H' pv => ?_
    · obtain ⟨es', o2, o3, rfl, e, h1', ek'⟩ := pv
      obtain ⟨rfl, kk, vj, hkv, rfl⟩ := y
      have hq : z[j]? = some (z[j]'(by omega)) := List.getElem?_eq_getElem (by omega)
      generalize z[j]'(by omega) = q at hq
      obtain ⟨x, xes, fv, ia, ies, hes, _, nxa, hx, _, _, _, hiv, _, nia, nix, hia, iek, hin⟩ := desc j q hq
      obtain ⟨rfl, rfl⟩ := Prod.mk.inj (Option.some.inj (hkv.symm.trans hes))
      have hvj : valV es (Sum.inr q.1 : Key) = some (.ref x) := valV_at (by rw [ek]; exact inr_nd (sh_nd snd)) hes
      have nd2 : (((rowsS (z.take j)).map (·.1)) ++ ((q.1 :: q.2.2.map (·.1)) ++ ((rowsS (z.drop (j + 1))).map (·.1)))).Nodup := by
        rw [← rowsOf_names, ← List.map_append, ← List.map_append, ← rows_split hq]; exact snd
      have l4 : (rowsS (z.take j)).length + (1 + q.2.2.length) ≤ 4 := by
        have := congrArg List.length (rows_split hq)
        rw [List.length_append, List.length_append] at this
        have h2 := congrArg List.length (rowsOf_names q)
        rw [List.length_map, List.length_cons, List.length_map] at h2
        omega
      obtain ⟨ndA, ndB, dAB⟩ := List.nodup_append.mp nd2
      obtain ⟨ndC, _, _⟩ := List.nodup_append.mp ndB
      have ndI : (q.2.2.map (·.1)).Nodup := (List.nodup_cons.mp ndC).2
      have lk' : es'.length = (rowsS (z.take j)).length := by have := congrArg List.length ek'; simpa using this
      have li : ies.length = q.2.2.length := by have := congrArg List.length iek; simpa using this
      have nv : valV es' (Sum.inr q.1 : Key) = none := vV_no (by rw [ek']; exact inr_not fun hm => dAB _ hm q.1 (by simp) rfl)
      have a1L : (upd H a (.frz od (.dK es))) a1 = none := by rw [upd_ne n1a]; exact h1
      have ne1 : ∀ {b o}, (upd H a (.frz od (.dK es))) b = some o → b ≠ a1 := fun {b o} hb e => by rw [e, a1L] at hb; cases hb
      have xL : (upd H a (.frz od (.dK es))) x = some (.dK xes) := by rw [upd_ne nxa]; exact hx
      have iL : (upd H a (.frz od (.dK es))) ia = some (.dK ies) := by rw [upd_ne nia]; exact hia
      have aL : (upd H a (.frz od (.dK es))) a = some (.frz od (.dK es)) := upd_same
      generalize (upd H a (.frz od (.dK es))) = HL at e a1L ne1 xL iL aL ⊢
      refine ⟨_, rfl, _, rfl, a, .ref x, rfl, .inl ⟨es, Sum.inr q.1, .inr ⟨od, e _ _ aL⟩, rfl, hvj.symm⟩, _, rfl, _, rfl, a1, _, rfl, .inl ⟨es', Sum.inr q.1, h1', rfl, Evl.sz_lt (by omega), rfl⟩, ?_⟩
      have e1 : Ex HL (upd H' a1 (.dK (putK es' (Sum.inr q.1) (.ref x)))) := Ex.mut e a1L
      have h11 : (upd H' a1 (.dK (putK es' (Sum.inr q.1) (.ref x)))) a1 = some (.dK (es' ++ [(Sum.inr q.1, .ref x)])) := by rw [upd_same, putK_new _ nv]
      generalize (upd H' a1 (.dK (putK es' (Sum.inr q.1) (.ref x)))) = H1 at e1 h11 ⊢
      refine for_lock (J := fun od2 => Itk ia od2 ies) (xs := fun _ => none) (d := ia) (es := ies) (e1 _ _ iL) (fun od2 R r => ⟨_, rfl, _, rfl, a, .ref x, rfl, .inl ⟨es, Sum.inr q.1, .inr ⟨od, (by rw [upd_ne nia.symm]; exact e1 _ _ aL)⟩, rfl, hvj.symm⟩, x, _, rfl, .inl ⟨xes, Sum.inr "inner", .inl (by rw [upd_ne nix.symm]; exact e1 _ _ xL), rfl, hiv.symm⟩, ia, od2, rfl, .inl ⟨ies, upd_same, r⟩⟩) (fun od2 => walk_keys)
        (fun od2 i σ' H2 => ∃ (es2 : List (Key × V)) (o3 : Option V), σ' = [some (.ref a), some (.ref a1), some (.str q.1), o3] ∧ Ex (upd HL ia (.frz od2 (.dK ies))) H2 ∧ H2 a1 = some (.dK es2) ∧ es2.map (·.1) = (((rowsS (z.take j)).map (·.1)) ++ (q.1 :: (q.2.2.map (·.1)).take i)).map Sum.inr)
        (fun od2 => ⟨_, _, rfl, Ex.both e1, by rw [upd_ne (ne1 iL).symm]; exact h11, by rw [List.map_append, ek']; simp⟩) (fun od2 i σ' H' _ ⟨_, _, _, e, _⟩ => e _ _ upd_same) (fun od2 i x2 σ' H3 H2 hlt2 pv2 y2 => ?_) fun od2 σ' H2 pv2 => ?_
      · obtain ⟨es2, o3', rfl, e2, h12, ek2⟩ := pv2
        obtain ⟨rfl, kk2, vk, hkv2, rfl⟩ := y2
        have hr2 : q.2.2[i]? = some (q.2.2[i]'(by omega)) := List.getElem?_eq_getElem (by omega)
        generalize q.2.2[i]'(by omega) = r at hr2
        obtain ⟨yy, yes, gv, hies, nya, nyi, hy, _⟩ := hin i r hr2
        obtain ⟨rfl, rfl⟩ := Prod.mk.inj (Option.some.inj (hkv2.symm.trans hies))
        have hvk : valV ies (Sum.inr r.1 : Key) = some (.ref yy) := valV_at (by rw [iek]; exact inr_nd ndI) hies
        have hrn : (q.2.2.map (·.1))[i]? = some r.1 := by rw [List.getElem?_map, hr2]; rfl
        have nv2 : valV es2 (Sum.inr r.1 : Key) = none := vV_no (by
          rw [ek2]
          refine inr_not fun hm => ?_
          rcases List.mem_append.mp hm with hm | hm
          · exact dAB _ hm r.1 (List.mem_append_left _ (List.mem_cons_of_mem _ (List.mem_of_getElem? hrn))) rfl
          · rcases List.mem_cons.mp hm with hm | hm
            · exact (List.nodup_cons.mp ndC).1 (hm ▸ List.mem_of_getElem? hrn)
            · exact not_take ndI hrn hm)
        have l2 : es2.length < 100000 := by
          have := congrArg List.length ek2
          simp only [List.length_map, List.length_append, List.length_cons, List.length_take] at this
          omega
        exact ⟨_, rfl, _, rfl, a, .ref x, rfl, .inl ⟨es, Sum.inr q.1, .inr ⟨od, e2 _ _ (by rw [upd_ne nia.symm]; exact aL)⟩, rfl, hvj.symm⟩, x, _, rfl, .inl ⟨xes, Sum.inr "inner", .inl (e2 _ _ (by rw [upd_ne nix.symm]; exact xL)), rfl, hiv.symm⟩, _, rfl, ia, .ref yy, rfl, .inl ⟨ies, Sum.inr r.1, .inr ⟨od2, e2 _ _ upd_same⟩, rfl, hvk.symm⟩, _, rfl, _, rfl, a1, _, rfl, .inl ⟨es2, Sum.inr r.1, h12, rfl, Evl.sz_lt l2, rfl⟩,
          es2 ++ [(Sum.inr r.1, .ref yy)], _, rfl, Ex.mut e2 (by rw [upd_ne (ne1 iL).symm]; exact a1L), by rw [upd_same, putK_new _ nv2], by rw [List.map_append, ek2, take_snoc hrn]; simp⟩
      · obtain ⟨es2, o3', rfl, e2, h12, ek2⟩ := pv2
        refine ⟨es2, _, _, rfl, unlock iL e2, by rw [upd_ne (ne1 iL).symm]; exact h12, ?_⟩
        rw [ek2, List.take_of_length_le (l := q.2.2.map (·.1)) (by rw [List.length_map]; omega), rows_snoc hq]
        simp only [List.map_append, rowsOf_names]
    · obtain ⟨es', o2, o3, rfl, e, h1', ek'⟩ := pv
      rw [le, List.take_of_length_le (Nat.le_refl _)] at ek'
      exact Evl.s_ret (Evl.ev_var rfl) fun H7 e7 => k H7 a1 es' ((unlock ha e).trans e7) h1 (e7 _ _ (by rw [upd_ne n1a]; exact h1')) ek'
end
end Pk

namespace Pk
open PySem PySem.Spec PyProof.Rows L2 Ssb
open Evl (Ex Ev EvT EvL EvA EvU)
def turn : Nat → D → D
  | n + 1, .lst l => .lst (l.map (turn n))
  | n + 1, .dic l => .dic ((l.map fun p => (p.1, turn n p.2)).reverse)
  | _, d => d
/-- names of a dict are different; tuples of texts alone -/
def plT : Nat → D → Prop
  | _ + 1, .lst l => False
  | _ + 1, .tup l => ∃ ws : List Str, l = ws.map .str
  | n + 1, .dic l => (l.map (·.1)).Nodup ∧ ∀ p ∈ l, plT n p.2
  | _, _ => True
theorem rep_tupS {H : Hp} {n : Nat} {S S' : Addr → Prop} {ws : List Str} {v : V} (h : Rep H n S (.tup (ws.map .str)) v) : Rep H n S' (.tup (ws.map .str)) v := by
  cases n with
  | zero => exact h.elim
  | succ n =>
    obtain ⟨a, xs, e, ha, l5, pr⟩ := h
    refine ⟨a, xs, e, ha, l5, ?_⟩
    clear ha l5
    revert xs
    induction ws with
    | nil => intro xs pr; cases pr; exact .nil
    | cons w ws ih =>
      intro xs pr
      cases pr with
      | cons h t =>
        refine .cons ?_ (ih _ t)
        cases n with
        | zero => exact h.elim
        | succ n => exact h
section
variable {P : Program} {w : World} {K : PySem.W.Frag} {mg : Str → Option Value} {base : Heap} {C_Shape : Addr}
def spTurn (n : Nat) : Sp := fun vs H Q _ => ∃ (v : V) (P : Addr → Prop) (d : D), vs = [v] ∧ Rep H n P d v ∧ plT n d ∧ ∀ H' v', Ex H H' → Rep H' n (fun b => H b = none) (turn n d) v' → Q v' H'
theorem ok__law_turned (T : Txt K mg C_Shape) (R : Prg K mg C_Shape) : ∀ n, ∃ f fd, Fn P w K mg base "_law_turned" (n + 1) ["_law_value"] (spTurn n) f fd
  | 0 => by
    obtain ⟨f, fd, at_, F, kp⟩ := R._law_turned
    refine ⟨f, fd, F.ok sc__law_turned (fun vs H Q E h => ?_) (fun cdv A outer s H vs Q E hr h => ?_), at_, kp, F.binds (fun _ _ _ _ _ _ us hl => match us, hl with | [_], _ => rfl)⟩
    · obtain ⟨v, P, d, rfl, _⟩ := h; rfl
    · obtain ⟨v, P, d, rfl, h, _⟩ := h; exact h.elim
  | n + 1 => by
    obtain ⟨_, _, G__law_turned⟩ := ok__law_turned T R n
    obtain ⟨f, fd, at_, F, kp⟩ := R._law_turned
    refine ⟨f, fd, F.ok sc__law_turned (fun vs H Q E h => ?_) (fun cdv A outer s H vs Q E hr h => ?_), at_, kp, F.binds (fun _ _ _ _ _ _ us hl => match us, hl with | [_], _ => rfl)⟩
    · obtain ⟨v, P, d, rfl, _⟩ := h; rfl
    · obtain ⟨v, PP, d, rfl, hv, hkn, k⟩ := h
      refine ⟨_, (pss_cons (ps_if (pt_val (pe_callB (r := rIsi K) call_isi (by rfl) T.isinstance (by decide +kernel) (pa_cons (pv 0) (pa_cons (pe_bltn (v := .ty "list") (by rfl) T.list boot_list rfl) pa_nil)))) pss_never pss_nil)
  (pss_cons (ps_if (pt_val (pe_callB (r := rIsi K) call_isi (by rfl) T.isinstance (by decide +kernel) (pa_cons (pv 0) (pa_cons (pe_bltn (v := .ty "dict") (by rfl) T.dict boot_dict rfl) pa_nil)))) (pss_cons (ps_set (i := 1) sc__law_turned.nd rfl (Or.inl rfl) pe_dnewK)
  (pss_cons (ps_for PassesOwn.never rfl (pi_reversed (by rfl) T.reversed (pa_cons (pe_callTy (call_listD rfl) (by rfl) T.list (by decide +kernel) (pa_cons (pv 0) pa_nil)) pa_nil)) (pg_name (i := 2) sc__law_turned.nd rfl (Or.inl rfl))
    (pss_one (ps_dput (hu_of hr) (pv 1) (pv 2) (pcl G__law_turned hr (pa_cons (pe_dget (hu_of hr) (pv 0) (pv 2) (fun _ _ => rfl)) pa_nil)) rfl)))
  (pss_one (ps_ret (pv 1))))) pss_nil)
  (pss_one (ps_ret (pv 0))))), ?_⟩
      have skip1 : (∀ l, d ≠ .lst l) → kitB (dT d) "list" = some false := fun a => by
        refine kit_list _ ?_
        cases d with
        | lst l => exact absurd rfl (a l)
        | _ => simp [dT]
      have skip3 : (∀ l, d ≠ .dic l) → kitB (dT d) "dict" = some false := fun a => by
        refine kit_dict _ ?_
        cases d with
        | dic l => exact absurd rfl (a l)
        | _ => simp [dT]
      have c1 : ∀ l, d ≠ .lst l := fun l e => by subst e; exact hkn
      refine Evl.q_when (b := false) (Evl.et_B (ev_kind false (Evl.ev_var rfl) hv (skip1 c1))) (fun h => nomatch h) fun _ H1 e12 => ?_
      have hv2 := rep_ex e12 hv
      by_cases c3 : ∃ l, d = .dic l
      · obtain ⟨l, rfl⟩ := c3
        obtain ⟨a, es, rfl, _, ha, l5, pr⟩ := id hv2
        have ekeys := pair_keys pr
        have le := pair_len pr
        refine Evl.q_when (b := true) (Evl.et_B (ev_kind (d := .dic l) true (Evl.ev_var rfl) hv2 (show kitB "dict" "dict" = some true by decide +kernel))) (fun _ H3 e3 => ?_) (fun h => nomatch h)
        have ha3 := e3 _ _ ha
        have e13 := e12.trans e3
        intro a1 h1
        have n1a : a1 ≠ a := fun e => by rw [e, ha3] at h1; cases h1
        refine ⟨_, rfl, a, es, rfl, .inl (by rw [upd_ne n1a.symm]; exact ha3), fun p hp => ⟨p, _, rfl, Evl.sq_of upd_same, ?_⟩⟩
        have np1 : p ≠ a1 := fun e => by rw [e, upd_same] at hp; cases hp
        have e4 : Ex H3 (upd (upd H3 a1 (.dK [])) p (.lst (es.map fun kv => kV kv.1))) := (Ex.new h1).trans (Ex.new hp)
        have hp3 : H3 p = none := Evl.fresh_back (Ex.new h1) hp
        refine for_it walk_rev (fun j σ' H' => ∃ (es' : List (Key × V)) (o2 : Option V), σ' = [some (.ref a), some (.ref a1), o2, none] ∧ Ex H3 H' ∧ H' p = some (.lst (es.map fun kv => kV kv.1)) ∧ H' a1 = some (.dK es') ∧ Paired (fun (x : Str × D) (e : Key × V) => e.1 = Sum.inr x.1 ∧ Rep H' n (fun b => H3 b = none ∧ b ≠ a1) x.2 e.2) (((l.map fun p => (p.1, turn n p.2)).reverse).take j) es')
          ⟨[], _, rfl, e4, upd_same, by rw [upd_ne np1.symm]; exact upd_same, .nil⟩ (fun j σ' H' _ ⟨_, _, _, _, h, _⟩ => Evl.sq_of h) (fun j x σ' H0 H' hj pv y => ?_) fun σ' H' pv => ?_
        · obtain ⟨es', o2, rfl, e, hpH, h1', pes⟩ := pv
          obtain ⟨rfl, hx⟩ := y
          rw [List.length_map] at hj hx
          rw [List.getElem?_map] at hx
          cases hkv : es[es.length - 1 - j]? with
          | none => rw [hkv] at hx; cases hx
          | some kv =>
          rw [hkv] at hx
          obtain ⟨kk, vj⟩ := kv
          cases hx
          obtain ⟨⟨nm, dj⟩, hdj, hk, hrj⟩ := pair_back pr hkv
          have hk : kk = Sum.inr nm := hk
          subst hk
          have hrev : ((l.map fun p => (p.1, turn n p.2)).reverse)[j]? = some (nm, turn n dj) := by
            rw [List.getElem?_reverse (by rw [List.length_map]; omega), List.getElem?_map, List.length_map, le, hdj]; rfl
          have rnd : (((l.map fun p => (p.1, turn n p.2)).reverse).map (·.1)).Nodup := by
            rw [List.map_reverse, List.map_map]
            exact (List.reverse_perm _).nodup_iff.mpr hkn.1
          have hvj : valV es (Sum.inr nm : Key) = some vj := valV_at (by rw [ekeys]; exact inr_nd hkn.1) hkv
          have hrj' := rep_ex e (rep_ex e3 hrj)
          refine ⟨_, rfl, _, rfl, a, vj, rfl, .inl ⟨es, Sum.inr nm, .inl (e _ _ ha3), rfl, hvj.symm⟩, vj, _, dj, rfl, hrj', hkn.2 _ (List.mem_of_getElem? hdj), fun H4 v4 e4 hr4 => ?_⟩
          have nv : valV es' (Sum.inr nm : Key) = none := vV_no (by rw [pair_keys pes, List.map_take]; exact inr_not (not_take rnd (by rw [List.getElem?_map, hrev]; rfl)))
          refine ⟨_, rfl, _, rfl, a1, _, rfl, .inl ⟨es', Sum.inr nm, e4 _ _ h1', rfl, ?_, rfl⟩, es' ++ [(Sum.inr nm, v4)], _, rfl, Ex.mut (e.trans e4) h1, by rw [upd_ne np1]; exact e4 _ _ hpH, by rw [upd_same, putK_new _ nv], ?_⟩
          · rw [← pair_len pes, List.length_take]; exact Evl.sz_lt (by omega)
          · rw [take_snoc hrev]
            exact pair_snoc (pair_imp pes fun a b h => ⟨h.1, rep_upd (e4 _ _ h1') (fun _ z => nomatch z) (fun b z => z.2) (rep_ex e4 h.2)⟩) ⟨rfl, rep_upd (e4 _ _ h1') (fun _ z => nomatch z) (fun b z => z.2) (rep_S (fun b hb => ⟨Evl.fresh_back e hb, fun z => by rw [z, h1'] at hb; cases hb⟩) hr4)⟩
        · obtain ⟨es', o2, rfl, e, hpH, h1', pes⟩ := pv
          rw [List.length_map, ← le, List.take_of_length_le (by rw [List.length_reverse, List.length_map]; exact Nat.le_refl _)] at pes
          exact Evl.s_ret (Evl.ev_var rfl) fun H7 e7 => k H7 _ (e13.trans (e.trans e7)) (rep_ex e7 ⟨a1, es', rfl, Evl.fresh_back e13 h1, h1', by rw [List.length_reverse, List.length_map]; exact l5, pair_imp pes fun x en h => ⟨h.1, rep_S (fun b hb => ⟨Evl.fresh_back e13 hb.1, hb.2⟩) h.2⟩⟩)
      have c3 : ∀ l, d ≠ .dic l := fun l e => c3 ⟨l, e⟩
      refine Evl.q_when (b := false) (Evl.et_B (ev_kind false (Evl.ev_var rfl) hv2 (skip3 c3))) (fun h => nomatch h) fun _ H3 e3 => Evl.s_ret (Evl.ev_var rfl) fun H4 e4 => ?_
      refine k H4 v (e12.trans (e3.trans e4)) ?_
      cases d with
      | lst l => exact absurd rfl (c1 l)
      | tup l => obtain ⟨ws, rfl⟩ := hkn; exact rep_tupS (rep_ex (e3.trans e4) hv2)
      | dic l => exact absurd rfl (c3 l)
      | non => exact hv
      | bl b => exact hv
      | int i => exact hv
      | str s => exact hv
end
end Pk

namespace Pk
open PySem PySem.Spec PyProof.Rows L2 Ssb
/-! ### equal as dicts, without a heap -/
def dEq {α : Type} (g : Str → α → α → Bool) (l1 l2 : List (Str × α)) : Bool := l1.length == l2.length && l1.all fun p => match l2.lookup p.1 with | some y => g p.1 p.2 y | none => false
theorem lk_mem3 {α : Type} : ∀ {l : List (Str × α)} {k : Str} {d : α}, l.lookup k = some d → (k, d) ∈ l
  | [], k, d, h => by cases h
  | (j, x) :: l, k, d, h => by
    rw [lk_cons] at h
    by_cases c : k = j
    · rw [if_pos c] at h; cases h; rw [c]; exact List.mem_cons_self
    · rw [if_neg c] at h; exact List.mem_cons_of_mem _ (lk_mem3 h)
theorem mem_key {α : Type} {l : List (Str × α)} {k : Str} {a : α} (h : (k, a) ∈ l) : k ∈ l.map (·.1) := List.mem_map.mpr ⟨_, h, rfl⟩
theorem key_mem {α : Type} {l : List (Str × α)} {k : Str} (h : k ∈ l.map (·.1)) : ∃ a, (k, a) ∈ l := by
  obtain ⟨⟨j, a⟩, h1, rfl⟩ := List.mem_map.mp h
  exact ⟨a, h1⟩
theorem one_val {α : Type} {l : List (Str × α)} {k : Str} {a b : α} (nd : (l.map (·.1)).Nodup) (h : (k, a) ∈ l) (h' : (k, b) ∈ l) : a = b := by
  have e := lk_of_mem nd h
  rw [lk_of_mem nd h'] at e
  exact (Option.some.inj e).symm
theorem dEq_iff {α : Type} {g : Str → α → α → Bool} {l1 l2 : List (Str × α)} (n1 : (l1.map (·.1)).Nodup) (n2 : (l2.map (·.1)).Nodup) :
    dEq g l1 l2 = true ↔ (∀ k a, (k, a) ∈ l1 → ∃ b, (k, b) ∈ l2 ∧ g k a b = true) ∧ ∀ k b, (k, b) ∈ l2 → ∃ a, (k, a) ∈ l1 ∧ g k a b = true := by
  unfold dEq
  constructor
  · intro h
    obtain ⟨hl, ha⟩ := Bool.and_eq_true_iff.mp h
    have hl := beq_iff_eq.mp hl
    have f : ∀ k a, (k, a) ∈ l1 → ∃ b, (k, b) ∈ l2 ∧ g k a b = true := fun k a hm => by
      have := List.all_eq_true.mp ha _ hm
      dsimp only at this
      cases e : l2.lookup k with
      | none => rw [e] at this; cases this
      | some b => rw [e] at this; exact ⟨b, lk_mem3 e, this⟩
    refine ⟨f, fun k b hb => ?_⟩
    by_cases hk : k ∈ l1.map (·.1)
    · obtain ⟨a, ha⟩ := key_mem hk
      obtain ⟨b', hb', e⟩ := f k a ha
      rw [one_val n2 hb hb']
      exact ⟨a, ha, e⟩
    · have := pigeon (l := k :: l1.map (·.1)) (m := l2.map (·.1)) (List.nodup_cons.mpr ⟨hk, n1⟩) fun x hx => by
        rcases List.mem_cons.mp hx with rfl | hx
        · exact mem_key hb
        · obtain ⟨a, ha⟩ := key_mem hx
          obtain ⟨b', hb', _⟩ := f x a ha
          exact mem_key hb'
      rw [List.length_cons, List.length_map, List.length_map] at this
      omega
  · rintro ⟨f, r⟩
    have h1 := pigeon n1 (m := l2.map (·.1)) fun x hx => by
      obtain ⟨a, ha⟩ := key_mem hx
      obtain ⟨b, hb, _⟩ := f x a ha
      exact mem_key hb
    have h2 := pigeon n2 (m := l1.map (·.1)) fun x hx => by
      obtain ⟨a, ha⟩ := key_mem hx
      obtain ⟨b, hb, _⟩ := r x a ha
      exact mem_key hb
    rw [List.length_map, List.length_map] at h1 h2
    refine Bool.and_eq_true_iff.mpr ⟨beq_iff_eq.mpr (Nat.le_antisymm h1 h2), List.all_eq_true.mpr fun p hp => ?_⟩
    obtain ⟨k, a⟩ := p
    obtain ⟨b, hb, e⟩ := f k a hp
    show (match l2.lookup k with | some y => g k a y | none => false) = true
    rw [lk_of_mem n2 hb]
    exact e
theorem dEq_refl {α : Type} {g : Str → α → α → Bool} {l : List (Str × α)} (nd : (l.map (·.1)).Nodup) (h : ∀ k a, (k, a) ∈ l → g k a a = true) : dEq g l l = true :=
  (dEq_iff nd nd).mpr ⟨fun k a ha => ⟨a, ha, h k a ha⟩, fun k a ha => ⟨a, ha, h k a ha⟩⟩
/-- fields -/
def FE (f1 f2 : Fl) : Bool := dEq (fun _ a b => decide (a = b)) f1 f2
/-- lists, as the law describes them -/
def IE (i1 i2 : List (Str × Fl)) : Bool := dEq (fun _ a b => FE a b) i1 i2
def LE (s1 s2 : Sh) : Bool := dEq (fun _ a b => FE a.1 b.1 && IE a.2 b.2) s1 s2
/-- the table of a shape -/
def TbE (s1 s2 : Sh) : Bool := dEq (fun _ a b => decide (a.1 = b.1) && FE a.2 b.2) (rowsS s1) (rowsS s2)
theorem row_none {s : Sh} {k : Str} {f : Fl} (h : (k, none, f) ∈ rowsS s) : ∃ i, (k, f, i) ∈ s := by
  obtain ⟨⟨k', f', i⟩, hp, e | ⟨q, hq, e⟩⟩ := rows_mem h
  · cases e; exact ⟨i, hp⟩
  · cases e
theorem row_some {s : Sh} {k nm : Str} {f : Fl} (h : (k, some nm, f) ∈ rowsS s) : ∃ f0 i, (nm, f0, i) ∈ s ∧ (k, f) ∈ i := by
  obtain ⟨⟨k', f', i⟩, hp, e | ⟨⟨j, g⟩, hq, e⟩⟩ := rows_mem h
  · cases e
  · cases e; exact ⟨f', i, hp, hq⟩
theorem nd_one {α : Type} {l : List (Str × α)} (h : l.length ≤ 1) : (l.map (·.1)).Nodup := by
  match l, h with
  | [], _ => exact List.nodup_nil
  | [x], _ => simp
theorem TE_in {s1 s2 : Sh} (z1 : okSh s1) (z2 : okSh s2)
    (F : ∀ k a, (k, a) ∈ rowsS s1 → ∃ b, (k, b) ∈ rowsS s2 ∧ (decide (a.1 = b.1) && FE a.2 b.2) = true) (B : ∀ k b, (k, b) ∈ rowsS s2 → ∃ a, (k, a) ∈ rowsS s1 ∧ (decide (a.1 = b.1) && FE a.2 b.2) = true)
    {k : Str} {f f2 : Fl} {i i2 : List (Str × Fl)} (h1 : (k, f, i) ∈ s1) (h2 : (k, f2, i2) ∈ s2) : IE i i2 = true := by
  refine (dEq_iff (nd_one (z1.2.2 _ h1).2.2.1) (nd_one (z2.2.2 _ h2).2.2.1)).mpr ⟨fun j g hg => ?_, fun j g hg => ?_⟩
  · obtain ⟨⟨p, g2⟩, hb, e⟩ := F j (some k, g) (row_in h1 hg)
    obtain ⟨e1, e2⟩ := Bool.and_eq_true_iff.mp e
    have e1 : some k = p := of_decide_eq_true e1
    subst e1
    obtain ⟨f0, i0, hm, hj⟩ := row_some hb
    have := one_val (sh_nd z2.2.1) hm h2
    cases this
    exact ⟨g2, hj, e2⟩
  · obtain ⟨⟨p, g2⟩, hb, e⟩ := B j (some k, g) (row_in h2 hg)
    obtain ⟨e1, e2⟩ := Bool.and_eq_true_iff.mp e
    have e1 : p = some k := of_decide_eq_true e1
    subst e1
    obtain ⟨f0, i0, hm, hj⟩ := row_some hb
    have := one_val (sh_nd z1.2.1) hm h1
    cases this
    exact ⟨g2, hj, e2⟩
/-- the two say the same of valid shapes -/
theorem LE_TE {s1 s2 : Sh} (z1 : okSh s1) (z2 : okSh s2) : LE s1 s2 = TbE s1 s2 := by
  refine Bool.eq_iff_iff.mpr ⟨fun h => ?_, fun h => ?_⟩
  · obtain ⟨F, B⟩ := (dEq_iff (sh_nd z1.2.1) (sh_nd z2.2.1)).mp h
    refine (dEq_iff z1.2.1 z2.2.1).mpr ⟨fun k a ha => ?_, fun k a ha => ?_⟩
    · obtain ⟨par, f⟩ := a
      cases par with
      | none =>
        obtain ⟨i, hi⟩ := row_none ha
        obtain ⟨⟨f2, i2⟩, hb, e⟩ := F k (f, i) hi
        obtain ⟨e1, e2⟩ := Bool.and_eq_true_iff.mp e
        exact ⟨(none, f2), row_out hb, Bool.and_eq_true_iff.mpr ⟨decide_eq_true rfl, e1⟩⟩
      | some nm =>
        obtain ⟨f0, i, hi, hk⟩ := row_some ha
        obtain ⟨⟨f2, i2⟩, hb, e⟩ := F nm (f0, i) hi
        obtain ⟨e1, e2⟩ := Bool.and_eq_true_iff.mp e
        obtain ⟨F2, _⟩ := (dEq_iff (nd_one (z1.2.2 _ hi).2.2.1) (nd_one (z2.2.2 _ hb).2.2.1)).mp e2
        obtain ⟨g, hg, e3⟩ := F2 k f hk
        exact ⟨(some nm, g), row_in hb hg, Bool.and_eq_true_iff.mpr ⟨decide_eq_true rfl, e3⟩⟩
    · obtain ⟨par, f⟩ := a
      cases par with
      | none =>
        obtain ⟨i, hi⟩ := row_none ha
        obtain ⟨⟨f2, i2⟩, hb, e⟩ := B k (f, i) hi
        obtain ⟨e1, e2⟩ := Bool.and_eq_true_iff.mp e
        exact ⟨(none, f2), row_out hb, Bool.and_eq_true_iff.mpr ⟨decide_eq_true rfl, e1⟩⟩
      | some nm =>
        obtain ⟨f0, i, hi, hk⟩ := row_some ha
        obtain ⟨⟨f2, i2⟩, hb, e⟩ := B nm (f0, i) hi
        obtain ⟨e1, e2⟩ := Bool.and_eq_true_iff.mp e
        obtain ⟨_, B2⟩ := (dEq_iff (nd_one (z1.2.2 _ hb).2.2.1) (nd_one (z2.2.2 _ hi).2.2.1)).mp e2
        obtain ⟨g, hg, e3⟩ := B2 k f hk
        exact ⟨(some nm, g), row_in hb hg, Bool.and_eq_true_iff.mpr ⟨decide_eq_true rfl, e3⟩⟩
  · obtain ⟨F, B⟩ := (dEq_iff z1.2.1 z2.2.1).mp h
    refine (dEq_iff (sh_nd z1.2.1) (sh_nd z2.2.1)).mpr ⟨fun k a ha => ?_, fun k a ha => ?_⟩
    · obtain ⟨f, i⟩ := a
      obtain ⟨⟨p, f2⟩, hb, e⟩ := F k (none, f) (row_out ha)
      obtain ⟨e1, e2⟩ := Bool.and_eq_true_iff.mp e
      have e1 : none = p := of_decide_eq_true e1
      subst e1
      obtain ⟨i2, h2⟩ := row_none hb
      exact ⟨(f2, i2), h2, Bool.and_eq_true_iff.mpr ⟨e2, TE_in z1 z2 F B ha h2⟩⟩
    · obtain ⟨f, i⟩ := a
      obtain ⟨⟨p, f2⟩, hb, e⟩ := B k (none, f) (row_out ha)
      obtain ⟨e1, e2⟩ := Bool.and_eq_true_iff.mp e
      have e1 : p = none := of_decide_eq_true e1
      subst e1
      obtain ⟨i2, h2⟩ := row_none hb
      exact ⟨(f2, i2), h2, Bool.and_eq_true_iff.mpr ⟨e2, TE_in z1 z2 F B h2 ha⟩⟩
end Pk

namespace Pk
open PySem PySem.Spec PyProof.Rows L2 Ssb
/-- one value, one datum -/
theorem rep_inj {H : Hp} : ∀ {m m' : Nat} {S1 S2 : Addr → Prop} {d1 d2 : D} {v : V}, Rep H m S1 d1 v → Rep H m' S2 d2 v → d1 = d2
  | 0, _, _, _, _, _, _, h, _ => h.elim
  | _ + 1, 0, _, _, _, _, _, _, h => h.elim
  | m + 1, m' + 1, S1, S2, d1, d2, v, h1, h2 => by
    cases d1 with
    | non =>
      have e1 : v = .non := h1
      subst e1
      cases d2 with
      | non => have e2 : V.non = .non := h2; cases e2; rfl
      | bl b' => have e2 : V.non = .bl b' := h2; cases e2
      | int i' => have e2 : V.non = .int i' := h2; cases e2
      | str x' => have e2 : V.non = .str x' := h2; cases e2
      | lst l' => obtain ⟨a', xs', e', _, ha', _, pr'⟩ := h2; cases e'
      | tup l' => obtain ⟨a', xs', e', ha', _, pr'⟩ := h2; cases e'
      | dic l' => obtain ⟨a', xs', e', _, ha', _, pr'⟩ := h2; cases e'
    | bl b =>
      have e1 : v = .bl b := h1
      subst e1
      cases d2 with
      | non => have e2 : V.bl b = .non := h2; cases e2
      | bl b' => have e2 : V.bl b = .bl b' := h2; cases e2; rfl
      | int i' => have e2 : V.bl b = .int i' := h2; cases e2
      | str x' => have e2 : V.bl b = .str x' := h2; cases e2
      | lst l' => obtain ⟨a', xs', e', _, ha', _, pr'⟩ := h2; cases e'
      | tup l' => obtain ⟨a', xs', e', ha', _, pr'⟩ := h2; cases e'
      | dic l' => obtain ⟨a', xs', e', _, ha', _, pr'⟩ := h2; cases e'
    | int i =>
      have e1 : v = .int i := h1
      subst e1
      cases d2 with
      | non => have e2 : V.int i = .non := h2; cases e2
      | bl b' => have e2 : V.int i = .bl b' := h2; cases e2
      | int i' => have e2 : V.int i = .int i' := h2; cases e2; rfl
      | str x' => have e2 : V.int i = .str x' := h2; cases e2
      | lst l' => obtain ⟨a', xs', e', _, ha', _, pr'⟩ := h2; cases e'
      | tup l' => obtain ⟨a', xs', e', ha', _, pr'⟩ := h2; cases e'
      | dic l' => obtain ⟨a', xs', e', _, ha', _, pr'⟩ := h2; cases e'
    | str x =>
      have e1 : v = .str x := h1
      subst e1
      cases d2 with
      | non => have e2 : V.str x = .non := h2; cases e2
      | bl b' => have e2 : V.str x = .bl b' := h2; cases e2
      | int i' => have e2 : V.str x = .int i' := h2; cases e2
      | str x' => have e2 : V.str x = .str x' := h2; cases e2; rfl
      | lst l' => obtain ⟨a', xs', e', _, ha', _, pr'⟩ := h2; cases e'
      | tup l' => obtain ⟨a', xs', e', ha', _, pr'⟩ := h2; cases e'
      | dic l' => obtain ⟨a', xs', e', _, ha', _, pr'⟩ := h2; cases e'
    | lst l =>
      obtain ⟨a, xs, e, _, ha, -, pr⟩ := h1
      subst e
      cases d2 with
      | non => have e2 : V.ref a = .non := h2; cases e2
      | bl b' => have e2 : V.ref a = .bl b' := h2; cases e2
      | int i' => have e2 : V.ref a = .int i' := h2; cases e2
      | str x' => have e2 : V.ref a = .str x' := h2; cases e2
      | lst l' =>
        obtain ⟨a', xs', e', _, ha', -, pr'⟩ := h2
        cases e'; rw [ha] at ha'; cases ha'
        refine congrArg D.lst ?_
        clear ha
        revert l'
        induction pr with
        | nil => intro l' pr'; cases pr'; rfl
        | cons h t ih =>
          intro l' pr'
          cases pr' with
          | cons h' t' =>
            rw [ih _ t', rep_inj h h']
      | tup l' => obtain ⟨a', xs', e', ha', -, pr'⟩ := h2; cases e'; rw [ha] at ha'; cases ha'
      | dic l' => obtain ⟨a', xs', e', _, ha', -, pr'⟩ := h2; cases e'; rw [ha] at ha'; cases ha'
    | tup l =>
      obtain ⟨a, xs, e, ha, -, pr⟩ := h1
      subst e
      cases d2 with
      | non => have e2 : V.ref a = .non := h2; cases e2
      | bl b' => have e2 : V.ref a = .bl b' := h2; cases e2
      | int i' => have e2 : V.ref a = .int i' := h2; cases e2
      | str x' => have e2 : V.ref a = .str x' := h2; cases e2
      | lst l' => obtain ⟨a', xs', e', _, ha', -, pr'⟩ := h2; cases e'; rw [ha] at ha'; cases ha'
      | tup l' =>
        obtain ⟨a', xs', e', ha', -, pr'⟩ := h2
        cases e'; rw [ha] at ha'; cases ha'
        refine congrArg D.tup ?_
        clear ha
        revert l'
        induction pr with
        | nil => intro l' pr'; cases pr'; rfl
        | cons h t ih =>
          intro l' pr'
          cases pr' with
          | cons h' t' =>
            rw [ih _ t', rep_inj h h']
      | dic l' => obtain ⟨a', xs', e', _, ha', -, pr'⟩ := h2; cases e'; rw [ha] at ha'; cases ha'
    | dic l =>
      obtain ⟨a, xs, e, _, ha, -, pr⟩ := h1
      subst e
      cases d2 with
      | non => have e2 : V.ref a = .non := h2; cases e2
      | bl b' => have e2 : V.ref a = .bl b' := h2; cases e2
      | int i' => have e2 : V.ref a = .int i' := h2; cases e2
      | str x' => have e2 : V.ref a = .str x' := h2; cases e2
      | lst l' => obtain ⟨a', xs', e', _, ha', -, pr'⟩ := h2; cases e'; rw [ha] at ha'; cases ha'
      | tup l' => obtain ⟨a', xs', e', ha', -, pr'⟩ := h2; cases e'; rw [ha] at ha'; cases ha'
      | dic l' =>
        obtain ⟨a', xs', e', _, ha', -, pr'⟩ := h2
        cases e'; rw [ha] at ha'; cases ha'
        refine congrArg D.dic ?_
        clear ha
        revert l'
        induction pr with
        | nil => intro l' pr'; cases pr'; rfl
        | cons h t ih =>
          intro l' pr'
          cases pr' with
          | cons h' t' =>
            rw [ih _ t']
            exact congrArg (· :: _) (Prod.ext (Sum.inr.inj (h.1.symm.trans h'.1)) (rep_inj h.2 h'.2))
/-! ### == of data on the heap -/
theorem pair_val {F : D → V → Prop} : ∀ {l : List (Str × D)} {es : List (Key × V)}, Paired (fun (q : Str × D) (e : Key × V) => e.1 = Sum.inr q.1 ∧ F q.2 e.2) l es → ∀ {k : Str} {v : V}, valV es (Sum.inr k) = some v → ∃ d, (k, d) ∈ l ∧ F d v
  | _, _, .nil, k, v, h => by cases h
  | (j, d0) :: l, e :: es, .cons h t, k, v, hk => by
    rw [vV_cons] at hk
    by_cases c : e.1 = Sum.inr k
    · rw [if_pos c] at hk
      cases hk
      have : j = k := Sum.inr.inj (h.1.symm.trans c)
      subst this
      exact ⟨d0, List.mem_cons_self, h.2⟩
    · rw [if_neg c] at hk
      obtain ⟨d, hd, hf⟩ := pair_val t hk
      exact ⟨d, List.mem_cons_of_mem _ hd, hf⟩
theorem val_isSome : ∀ {es : List (Key × V)} {k : Key}, (valV es k).isSome = true ↔ k ∈ es.map (·.1)
  | [], k => ⟨fun h => (by cases h), fun h => nomatch h⟩
  | e :: es, k => by
    rw [vV_cons, List.map_cons, List.mem_cons]
    by_cases c : e.1 = k
    · rw [if_pos c]; exact ⟨fun _ => .inl c.symm, fun _ => rfl⟩
    · rw [if_neg c, val_isSome]
      exact ⟨.inr, fun h => h.elim (fun z => absurd z.symm c) id⟩
def DE (n : Nat) (d1 d2 : D) (b : Bool) : Prop := ∀ (K : PySem.W.Frag) (H : Hp) (m1 m2 : Nat) (S1 S2 : Addr → Prop) (v1 v2 : V), Rep H m1 S1 d1 v1 → Rep H m2 S2 d2 v2 → EqB K H n v1 v2 b
theorem de_opt {n : Nat} (a b : Option Str) : DE n (oD a) (oD b) (decide (a = b)) := fun K H m1 m2 S1 S2 v1 v2 h1 h2 => by
  cases m1 with
  | zero => exact h1.elim
  | succ m1 =>
  cases m2 with
  | zero => exact h2.elim
  | succ m2 =>
  have e1 : v1 = oV a := by cases a <;> exact h1
  have e2 : v2 = oV b := by cases b <;> exact h2
  subst e1 e2
  have e : decide (a = b) = eqV (oV a) (oV b) := by
    cases a with
    | none => cases b <;> simp [oV, eqV]
    | some x =>
      cases b with
      | none => rfl
      | some y =>
        show decide (some x = some y) = (x == y)
        exact Bool.eq_iff_iff.mpr (by simp)
  rw [e]
  exact .leaf (by cases a <;> rfl) (by cases b <;> rfl)
theorem de_str {n : Nat} (a b : Str) : DE n (.str a) (.str b) (decide (a = b)) := by
  have := de_opt (n := n) (some a) (some b)
  rw [show decide (a = b) = decide (some a = some b) from by simp]
  exact this
theorem de_tup {n : Nat} {l1 l2 : List D} {b : Bool} {e : Nat → Bool} (h : ∀ (j : Nat) (x y : D), l1[j]? = some x → l2[j]? = some y → DE n x y (e j)) (hb : ((List.range (min l1.length l2.length)).all e && l1.length == l2.length) = b) (hs : l1 = l2 → b = true) :
    DE (n + 1) (.tup l1) (.tup l2) b := fun K H m1 m2 S1 S2 v1 v2 h1 h2 => by
  by_cases c : v1 = v2
  · subst c
    have := D.tup.inj (rep_inj h1 h2)
    rw [hs this]
    cases m1 with
    | zero => exact h1.elim
    | succ m1 =>
    obtain ⟨a, xs, rfl, _⟩ := h1
    exact .same
  · cases m1 with
    | zero => exact h1.elim
    | succ m1 =>
    cases m2 with
    | zero => exact h2.elim
    | succ m2 =>
    obtain ⟨a, xs, rfl, ha, _, pr⟩ := h1
    obtain ⟨a', xs', rfl, ha', _, pr'⟩ := h2
    rw [← hb, pair_len pr, pair_len pr']
    refine .tups (fun z => c (by rw [z])) (.inl (.inl ha)) (.inl (.inl ha')) fun j x y hx hy => ?_
    obtain ⟨dx, hdx, rx⟩ := pair_back pr hx
    obtain ⟨dy, hdy, ry⟩ := pair_back pr' hy
    exact h j dx dy hdx hdy K H _ _ _ _ _ _ rx ry
theorem dic_top {α : Type} {n : Nat} {G : Str → D → α → Prop} {g : Str → α → α → Bool} {l1 l2 : List (Str × D)} {L1 L2 : List (Str × α)} (p1 : Paired (fun (p : Str × D) (q : Str × α) => p.1 = q.1 ∧ G q.1 p.2 q.2) l1 L1) (p2 : Paired (fun (p : Str × D) (q : Str × α) => p.1 = q.1 ∧ G q.1 p.2 q.2) l2 L2)
    (n1 : (L1.map (·.1)).Nodup) (n2 : (L2.map (·.1)).Nodup) (hk : ∀ k a b x y, (k, a) ∈ L1 → (k, b) ∈ L2 → G k x a → G k y b → DE n x y (g k a b)) {K : PySem.W.Frag} {H : Hp} {m1 m2 : Nat} {S1 S2 : Addr → Prop} {v1 v2 : V} (h1 : Rep H m1 S1 (.dic l1) v1) (h2 : Rep H m2 S2 (.dic l2) v2) :
    ∃ a c ks ls, ∃ e : Key → Bool, v1 = .ref a ∧ v2 = .ref c ∧ H a = some (.dK ks) ∧ H c = some (.dK ls) ∧ (∀ (k : Key) (x y : V), (k, x) ∈ ks → valV ls k = some y → EqB K H n x y (e k)) ∧ (ks.length == ls.length && ks.all fun p => (valV ls p.1).isSome && e p.1) = dEq g L1 L2 := by
  cases m1 with
  | zero => exact h1.elim
  | succ m1 =>
  cases m2 with
  | zero => exact h2.elim
  | succ m2 =>
  obtain ⟨a, ks, rfl, _, ha, _, pr⟩ := h1
  obtain ⟨c, ls, rfl, _, hc, _, pr'⟩ := h2
  have k1 : ks.map (·.1) = (L1.map (·.1)).map Sum.inr := by rw [pair_keys pr, pair_names p1]
  have k2 : ls.map (·.1) = (L2.map (·.1)).map Sum.inr := by rw [pair_keys pr', pair_names p2]
  let E : Key → Bool := fun k => match k with | .inr s => (match L1.lookup s, L2.lookup s with | some a, some b => g s a b | _, _ => false) | _ => false
  refine ⟨a, c, ks, ls, E, rfl, rfl, ha, hc, fun k x y hx hy => ?_, ?_⟩
  · obtain ⟨⟨s, dx⟩, hdx, e1, rx⟩ : ∃ q ∈ l1, k = Sum.inr q.1 ∧ Rep H m1 (fun b => S1 b ∧ b ≠ a) q.2 x := by
      obtain ⟨i, hi⟩ := List.getElem?_of_mem hx
      obtain ⟨q, hq, h⟩ := pair_back pr hi
      exact ⟨q, List.mem_of_getElem? hq, h⟩
    have e1 : k = Sum.inr s := e1
    subst e1
    obtain ⟨dy, hdy, ry⟩ := pair_val pr' hy
    obtain ⟨⟨s1, u1⟩, hu1, e1, g1⟩ := pair_mem p1 _ hdx
    obtain ⟨⟨s2, u2⟩, hu2, e2, g2⟩ := pair_mem p2 _ hdy
    have e1 : s = s1 := e1
    have e2 : s = s2 := e2
    subst e1 e2
    have : E (Sum.inr s) = g s u1 u2 := by
      show (match L1.lookup s, L2.lookup s with | some a, some b => g s a b | _, _ => false) = _
      rw [lk_of_mem n1 hu1, lk_of_mem n2 hu2]
    rw [this]
    exact hk s u1 u2 dx dy hu1 hu2 g1 g2 K H _ _ _ _ _ _ rx ry
  · unfold dEq
    have l1' : ks.length = L1.length := by have := congrArg List.length k1; simpa using this
    have l2' : ls.length = L2.length := by have := congrArg List.length k2; simpa using this
    rw [l1', l2']
    congr 1
    have : (ks.all fun p => (valV ls p.1).isSome && E p.1) = (ks.map (·.1)).all fun k => (valV ls k).isSome && E k := by rw [List.all_map]; rfl
    rw [this, k1, List.map_map, List.all_map]
    refine Bool.eq_iff_iff.mpr ?_
    rw [List.all_eq_true, List.all_eq_true]
    refine forall_congr' fun q => forall_congr' fun hq => ?_
    obtain ⟨s, u⟩ := q
    show ((valV ls (Sum.inr s)).isSome && E (Sum.inr s)) = true ↔ (match L2.lookup s with | some y => g s u y | none => false) = true
    have eE : E (Sum.inr s) = (match L2.lookup s with | some y => g s u y | none => false) := by
      show (match L1.lookup s, L2.lookup s with | some a, some b => g s a b | _, _ => false) = _
      rw [lk_of_mem n1 hq]
      cases L2.lookup s <;> rfl
    rw [eE]
    cases e : L2.lookup s with
    | none => simp
    | some y =>
      have : (valV ls (Sum.inr s)).isSome = true := val_isSome.mpr (by rw [k2]; exact List.mem_map.mpr ⟨s, mem_key (lk_mem3 e), rfl⟩)
      rw [this]; simp
theorem de_dic {α : Type} {n : Nat} {G : Str → D → α → Prop} {g : Str → α → α → Bool} {l1 l2 : List (Str × D)} {L1 L2 : List (Str × α)} (p1 : Paired (fun (p : Str × D) (q : Str × α) => p.1 = q.1 ∧ G q.1 p.2 q.2) l1 L1) (p2 : Paired (fun (p : Str × D) (q : Str × α) => p.1 = q.1 ∧ G q.1 p.2 q.2) l2 L2)
    (n1 : (L1.map (·.1)).Nodup) (n2 : (L2.map (·.1)).Nodup) (hk : ∀ k a b x y, (k, a) ∈ L1 → (k, b) ∈ L2 → G k x a → G k y b → DE n x y (g k a b)) (hs : l1 = l2 → dEq g L1 L2 = true) : DE (n + 1) (.dic l1) (.dic l2) (dEq g L1 L2) := fun K H m1 m2 S1 S2 v1 v2 h1 h2 => by
  obtain ⟨a, c, ks, ls, e, rfl, rfl, ha, hc, he, hb⟩ := dic_top p1 p2 n1 n2 hk (K := K) h1 h2
  by_cases z : a = c
  · subst z
    rw [hs (D.dic.inj (rep_inj h1 h2))]
    exact .same
  · rw [← hb]
    exact .dics z ha hc he
end Pk

namespace Pk
open PySem PySem.Spec PyProof.Rows L2 Ssb
theorem map_inj {α β : Type} {F : α → β} (hF : ∀ x y, F x = F y → x = y) : ∀ {l m : List α}, l.map F = m.map F → l = m
  | [], [], _ => rfl
  | [], _ :: _, h => nomatch h
  | _ :: _, [], h => nomatch h
  | x :: l, y :: m, h => by
    rw [hF _ _ (List.cons.inj h).1, map_inj hF (List.cons.inj h).2]
theorem strs_inj {a b : List Str} (h : a.map D.str = b.map D.str) : a = b := map_inj (fun x y e => D.str.inj e) h
theorem flD_inj {a b : Fl} (h : flD a = flD b) : a = b := map_inj (fun x y e => by
  have e1 := congrArg Prod.fst e
  have e2 := strs_inj (D.tup.inj (congrArg Prod.snd e))
  exact Prod.ext e1 e2) (D.dic.inj h)
theorem oD_inj {a b : Option Str} (h : oD a = oD b) : a = b := by
  cases a with
  | none => cases b with
    | none => rfl
    | some y => exact nomatch h
  | some x => cases b with
    | none => exact nomatch h
    | some y => exact congrArg some (D.str.inj h)
theorem pair_fun {α β : Type} {F : α → β → Prop} (hF : ∀ a b b', F a b → F a b' → b = b') : ∀ {l : List α} {m m' : List β}, Paired F l m → Paired F l m' → m = m'
  | _, _, _, .nil, .nil => rfl
  | _, _, _, .cons h t, .cons h' t' => by rw [hF _ _ _ h h', pair_fun hF t t']
theorem ls0_fun {d : D} {f f' : Fl} (h : ls0 d f) (h' : ls0 d f') : f = f' := by
  obtain ⟨l, rfl, _, h1, _⟩ := h
  obtain ⟨l', e, _, h2, _⟩ := h'
  cases e
  rw [h1] at h2
  exact flD_inj (Option.some.inj h2)
theorem ls1_fun {d : D} {f f' : Fl} {i i' : List (Str × Fl)} (h : ls1 d f i) (h' : ls1 d f' i') : f = f' ∧ i = i' := by
  obtain ⟨l, e, rfl, _, h1, h2, pr⟩ := h
  obtain ⟨l', e', ed, _, h3, h4, pr'⟩ := h'
  cases ed
  rw [h1] at h3
  rw [h2] at h4
  cases D.dic.inj (Option.some.inj h4)
  refine ⟨flD_inj (Option.some.inj h3), pair_fun (fun a b b' u v => ?_) pr pr'⟩
  exact Prod.ext (u.1.symm.trans v.1) (ls0_fun u.2 v.2)
theorem FE_refl {f : Fl} (h : okFl f) : FE f f = true := dEq_refl h.2.1 fun k a _ => decide_eq_true rfl
theorem IE_refl {i : List (Str × Fl)} (h1 : i.length ≤ 1) (h : ∀ q ∈ i, okFl q.2) : IE i i = true := dEq_refl (nd_one h1) fun k a ha => FE_refl (h _ ha)
theorem de_words {n : Nat} (a b : List Str) : DE (n + 1) (.tup (a.map .str)) (.tup (b.map .str)) (decide (a = b)) := by
  refine de_tup (e := fun j => decide (a[j]? = b[j]?)) (fun j x y hx hy => ?_) ?_ (fun h => decide_eq_true (strs_inj h))
  · rw [List.getElem?_map] at hx hy
    cases ea : a[j]? with
    | none => rw [ea] at hx; cases hx
    | some s =>
    cases eb : b[j]? with
    | none => rw [eb] at hy; cases hy
    | some t =>
    rw [ea] at hx; rw [eb] at hy
    cases hx; cases hy
    rw [show decide (some s = some t) = decide (s = t) from by simp]
    exact de_str s t
  · rw [List.length_map, List.length_map]
    refine Bool.eq_iff_iff.mpr ⟨fun h => ?_, fun h => ?_⟩
    · obtain ⟨h1, h2⟩ := Bool.and_eq_true_iff.mp h
      have h2 := beq_iff_eq.mp h2
      refine decide_eq_true (List.ext_getElem? fun j => ?_)
      by_cases hj : j < a.length
      · exact of_decide_eq_true (List.all_eq_true.mp h1 j (List.mem_range.mpr (by omega)))
      · rw [List.getElem?_eq_none_iff.mpr (by omega), List.getElem?_eq_none_iff.mpr (by omega)]
    · have h := of_decide_eq_true h
      subst h
      refine Bool.and_eq_true_iff.mpr ⟨List.all_eq_true.mpr fun j _ => decide_eq_true rfl, beq_iff_eq.mpr rfl⟩
theorem de_fl {n : Nat} {f1 f2 : Fl} (h1 : okFl f1) (h2 : okFl f2) : DE (n + 2) (flD f1) (flD f2) (FE f1 f2) := by
  refine de_dic (G := fun _ d ws => d = .tup (ws.map .str)) (pair_map fun x _ => ⟨rfl, rfl⟩) (pair_map fun x _ => ⟨rfl, rfl⟩) h1.2.1 h2.2.1 (fun k a b x y _ _ ha hb => ?_) (fun h => ?_)
  · subst ha hb; exact de_words a b
  · have : f1 = f2 := flD_inj (congrArg D.dic h)
    subst this
    exact FE_refl h1
theorem de_nil {n : Nat} : DE (n + 1) (.dic []) (.dic []) true := de_dic (α := Unit) (G := fun _ _ _ => True) (g := fun _ _ _ => true) (L1 := []) (L2 := []) .nil .nil List.nodup_nil List.nodup_nil (fun k a b x y h => nomatch h) fun _ => rfl
/-- the dict of a list: two keys, in either order -/
theorem de_two {n : Nat} {l1 l2 : List (Str × D)} {x1 y1 x2 y2 : D} {b1 b2 : Bool} (z1 : l1.length = 2) (z2 : l2.length = 2) (f1 : l1.lookup ("fields" : Str) = some x1) (i1 : l1.lookup ("inner" : Str) = some y1) (f2 : l2.lookup ("fields" : Str) = some x2) (i2 : l2.lookup ("inner" : Str) = some y2)
    (hx : DE n x1 x2 b1) (hy : DE n y1 y2 b2) (hs : l1 = l2 → (b1 && b2) = true) : DE (n + 1) (.dic l1) (.dic l2) (b1 && b2) := by
  have key : ∀ {l1 l2 : List (Str × D)} {L1 L2 : List (Str × Bool)}, (L1 = [(("fields" : Str), false), (("inner" : Str), false)] ∧ l1 = [(("fields" : Str), x1), (("inner" : Str), y1)] ∨ L1 = [(("inner" : Str), false), (("fields" : Str), false)] ∧ l1 = [(("inner" : Str), y1), (("fields" : Str), x1)]) →
      (L2 = [(("fields" : Str), true), (("inner" : Str), true)] ∧ l2 = [(("fields" : Str), x2), (("inner" : Str), y2)] ∨ L2 = [(("inner" : Str), true), (("fields" : Str), true)] ∧ l2 = [(("inner" : Str), y2), (("fields" : Str), x2)]) → (l1 = l2 → (b1 && b2) = true) → DE (n + 1) (.dic l1) (.dic l2) (b1 && b2) := by
    intro l1 l2 L1 L2 c1 c2 hs
    have nIF : ¬ (("inner" : Str) = "fields") := fun e => nFI e.symm
    have hd : dEq (fun (k : Str) (_ _ : Bool) => if k = "fields" then b1 else b2) L1 L2 = (b1 && b2) := by
      unfold dEq
      rcases c1 with ⟨rfl, _⟩ | ⟨rfl, _⟩ <;> rcases c2 with ⟨rfl, _⟩ | ⟨rfl, _⟩ <;> simp [lk_cons, nFI, nIF, Bool.and_comm]
    rw [← hd]
    refine de_dic (G := fun k d t => d = if k = "fields" then (if t = true then x2 else x1) else (if t = true then y2 else y1)) ?_ ?_ ?_ ?_ (fun k a b x y ha hb gx gy => ?_) (fun e => by rw [hd]; exact hs e)
    · rcases c1 with ⟨rfl, rfl⟩ | ⟨rfl, rfl⟩
      · exact .cons ⟨rfl, by simp⟩ (.cons ⟨rfl, by simp [nIF]⟩ .nil)
      · exact .cons ⟨rfl, by simp [nIF]⟩ (.cons ⟨rfl, by simp⟩ .nil)
    · rcases c2 with ⟨rfl, rfl⟩ | ⟨rfl, rfl⟩
      · exact .cons ⟨rfl, by simp⟩ (.cons ⟨rfl, by simp [nIF]⟩ .nil)
      · exact .cons ⟨rfl, by simp [nIF]⟩ (.cons ⟨rfl, by simp⟩ .nil)
    · rcases c1 with ⟨rfl, _⟩ | ⟨rfl, _⟩ <;> simp [nFI, nIF]
    · rcases c2 with ⟨rfl, _⟩ | ⟨rfl, _⟩ <;> simp [nFI, nIF]
    · have ea : a = false := by
        rcases c1 with ⟨rfl, _⟩ | ⟨rfl, _⟩ <;> (simp at ha; rcases ha with ha | ha <;> exact ha.2)
      have eb : b = true := by
        rcases c2 with ⟨rfl, _⟩ | ⟨rfl, _⟩ <;> (simp at hb; rcases hb with hb | hb <;> exact hb.2)
      subst ea eb
      by_cases c : k = "fields"
      · rw [if_pos c] at gx gy ⊢
        rw [gx, gy]; simpa using hx
      · rw [if_neg c] at gx gy ⊢
        rw [gx, gy]; simpa using hy
  have w1 := two_cases nFI z1 f1 i1
  have w2 := two_cases nFI z2 f2 i2
  rcases w1 with w1 | w1 <;> rcases w2 with w2 | w2
  · exact key (.inl ⟨rfl, w1⟩) (.inl ⟨rfl, w2⟩) hs
  · exact key (.inl ⟨rfl, w1⟩) (.inr ⟨rfl, w2⟩) hs
  · exact key (.inr ⟨rfl, w1⟩) (.inl ⟨rfl, w2⟩) hs
  · exact key (.inr ⟨rfl, w1⟩) (.inr ⟨rfl, w2⟩) hs
theorem de_ls0 {n : Nat} {d1 d2 : D} {f1 f2 : Fl} (h1 : ls0 d1 f1) (h2 : ls0 d2 f2) (o1 : okFl f1) (o2 : okFl f2) : DE (n + 3) d1 d2 (FE f1 f2) := by
  have hf : d1 = d2 → f1 = f2 := fun e => ls0_fun h1 (e ▸ h2)
  obtain ⟨l1, rfl, z1, a1, b1⟩ := h1
  obtain ⟨l2, rfl, z2, a2, b2⟩ := h2
  have := de_two (n := n + 2) z1 z2 a1 b1 a2 b2 (de_fl o1 o2) de_nil (fun e => by rw [← hf (congrArg D.dic e), FE_refl o1]; rfl)
  rw [Bool.and_true] at this
  exact this
def okI (i : List (Str × Fl)) : Prop := i.length ≤ 1 ∧ ∀ q ∈ i, okFl q.2
theorem de_in {n : Nat} {e1 e2 : List (Str × D)} {i1 i2 : List (Str × Fl)} (p1 : Paired (fun (p : Str × D) (q : Str × Fl) => p.1 = q.1 ∧ ls0 p.2 q.2) e1 i1) (p2 : Paired (fun (p : Str × D) (q : Str × Fl) => p.1 = q.1 ∧ ls0 p.2 q.2) e2 i2) (o1 : okI i1) (o2 : okI i2) : DE (n + 4) (.dic e1) (.dic e2) (IE i1 i2) := by
  refine de_dic (G := fun _ d f => ls0 d f) p1 p2 (nd_one o1.1) (nd_one o2.1) (fun k a b x y ha hb gx gy => de_ls0 gx gy (o1.2 _ ha) (o2.2 _ hb)) (fun e => ?_)
  subst e
  have : i1 = i2 := pair_fun (fun a b b' u v => Prod.ext (u.1.symm.trans v.1) (ls0_fun u.2 v.2)) p1 p2
  subst this
  exact IE_refl o1.1 o1.2
theorem de_ls1 {n : Nat} {d1 d2 : D} {f1 f2 : Fl} {i1 i2 : List (Str × Fl)} (h1 : ls1 d1 f1 i1) (h2 : ls1 d2 f2 i2) (o1 : okFl f1) (o2 : okFl f2) (q1 : okI i1) (q2 : okI i2) : DE (n + 5) d1 d2 (FE f1 f2 && IE i1 i2) := by
  have hf : d1 = d2 → f1 = f2 ∧ i1 = i2 := fun e => ls1_fun h1 (e ▸ h2)
  obtain ⟨l1, e1, rfl, z1, a1, b1, p1⟩ := h1
  obtain ⟨l2, e2, rfl, z2, a2, b2, p2⟩ := h2
  refine de_two (n := n + 4) z1 z2 a1 b1 a2 b2 (de_fl o1 o2) (de_in p1 p2 q1 q2) (fun e => ?_)
  obtain ⟨rfl, rfl⟩ := hf (congrArg D.dic e)
  rw [FE_refl o1, IE_refl q1.1 q1.2]; rfl
/-- == of the lists of two shapes -/
theorem top_sh {d1 d2 : D} {s1 s2 : Sh} (h1 : shD d1 s1) (h2 : shD d2 s2) (o1 : okSh s1) (o2 : okSh s2) {K : PySem.W.Frag} {H : Hp} {m1 m2 : Nat} {S1 S2 : Addr → Prop} {v1 v2 : V} (r1 : Rep H m1 S1 d1 v1) (r2 : Rep H m2 S2 d2 v2) {Q : VK} (q : Q (.bl (LE s1 s2)) H) :
    rEqQ K v1 v2 H Q := by
  obtain ⟨l1, rfl, p1⟩ := h1
  obtain ⟨l2, rfl, p2⟩ := h2
  obtain ⟨a, c, ks, ls, e, rfl, rfl, ha, hc, he, hb⟩ := dic_top (n := 5) (G := fun _ d a => ls1 d a.1 a.2) (g := fun _ a b => FE a.1 b.1 && IE a.2 b.2) p1 p2 (sh_nd o1.2.1) (sh_nd o2.2.1)
    (fun k a b x y ma mb ga gb => de_ls1 (n := 0) ga gb (o1.2.2 _ ma).2.1 (o2.2.2 _ mb).2.1 ⟨(o1.2.2 _ ma).2.2.1, fun q hq => ((o1.2.2 _ ma).2.2.2 q hq).2⟩ ⟨(o2.2.2 _ mb).2.2.1, fun q hq => ((o2.2.2 _ mb).2.2.2 q hq).2⟩) (K := K) r1 r2
  exact ⟨5, a, c, ks, ls, e, by decide, rfl, rfl, ha, hc, he, by rw [hb]; exact q⟩
/-- == of the tables -/
theorem top_tab {s1 s2 : Sh} (o1 : okSh s1) (o2 : okSh s2) {K : PySem.W.Frag} {H : Hp} {m1 m2 : Nat} {S1 S2 : Addr → Prop} {v1 v2 : V} (r1 : Rep H m1 S1 (tabD s1) v1) (r2 : Rep H m2 S2 (tabD s2) v2) {Q : VK} (q : Q (.bl (TbE s1 s2)) H) : rEqQ K v1 v2 H Q := by
  have k1 := (okSh_rows o1).2
  have k2 := (okSh_rows o2).2
  obtain ⟨a, c, ks, ls, e, rfl, rfl, ha, hc, he, hb⟩ := dic_top (n := 4) (α := Option Str × Fl) (L1 := rowsS s1) (L2 := rowsS s2) (G := fun _ d a => d = .tup [oD a.1, flD a.2]) (g := fun _ a b => decide (a.1 = b.1) && FE a.2 b.2) (pair_map fun x _ => ⟨rfl, rfl⟩) (pair_map fun x _ => ⟨rfl, rfl⟩) o1.2.1 o2.2.1
    (fun k a b x y ma mb ga gb => by
      subst ga gb
      refine de_tup (e := fun j => if j = 0 then decide (a.1 = b.1) else FE a.2 b.2) (fun j x y hx hy => ?_) ?_ (fun h => ?_)
      · match j with
        | 0 => cases hx; cases hy; exact de_opt a.1 b.1
        | 1 => cases hx; cases hy; exact de_fl (n := 1) (k1 _ ma).2 (k2 _ mb).2
        | j + 2 => cases hx
      · simp [List.range, List.range.loop]
      · have h1 := oD_inj (List.cons.inj h).1
        have h2 := flD_inj (List.cons.inj (List.cons.inj h).2).1
        rw [h1, h2, FE_refl (k2 _ mb).2, decide_eq_true rfl]; rfl) (K := K) r1 r2
  exact ⟨4, a, c, ks, ls, e, by decide, rfl, rfl, ha, hc, he, by rw [hb]; exact q⟩
end Pk

namespace Pk
open PySem PySem.Spec PyProof.Rows L2 Ssb
open Evl (Ex Ev EvT EvL EvA EvU)
theorem lt_tot : ∀ xs ys : List Nat, ltCps xs ys = false → ltCps ys xs = false → xs = ys
  | [], [], _, _ => rfl
  | [], _ :: _, h, _ => nomatch h
  | _ :: _, [], _, h => nomatch h
  | a :: r, b :: t, h1, h2 => by
    simp only [ltCps, Bool.or_eq_false_iff, decide_eq_false_iff_not, Bool.and_eq_false_iff, beq_eq_false_iff_ne] at h1 h2
    have e : a = b := by omega
    subst e
    rw [lt_tot r t (h1.2.resolve_left fun h => h rfl) (h2.2.resolve_left fun h => h rfl)]
theorem sort_uniq {l m : List Str} (p : l.Perm m) (h : m.length ≤ 2) (sl : sortedS l = true) (sm : sortedS m = true) : l = m := by
  match m, h with
  | [], _ => exact p.eq_nil
  | [x], _ => exact List.perm_singleton.mp p
  | [a, b], _ =>
    match l, p.length_eq with
    | [c, d], _ =>
      by_cases e : c = a
      · subst e
        rw [List.cons.inj (List.perm_singleton.mp ((List.perm_cons c).mp p)) |>.1]
      · have hc : c = b := by
          have := p.mem_iff.mp (List.mem_cons_self : c ∈ [c, d])
          rcases List.mem_cons.mp this with h | h
          · exact absurd h e
          · exact List.mem_singleton.mp h
        subst hc
        have hd : d = a := (List.cons.inj (List.perm_singleton.mp ((List.perm_cons c).mp (p.trans (List.Perm.swap c a []))))).1
        subst hd
        have s1 : ltCps d.cps.toList c.cps.toList = false := by
          simp only [sortedS, risingS, Bool.and_true, Bool.not_eq_true'] at sl; exact sl
        have s2 : ltCps c.cps.toList d.cps.toList = false := by
          simp only [sortedS, risingS, Bool.and_true, Bool.not_eq_true'] at sm; exact sm
        have := lt_tot _ _ s1 s2
        obtain ⟨⟨c⟩⟩ := c
        obtain ⟨⟨d⟩⟩ := d
        have : d = c := this
        rw [this]
open Classical in
noncomputable def srt (l : List Str) : List Str := if h : ∃ m : List Str, m.Perm l ∧ sortedS m = true then h.choose else l
theorem srt_eq {l ys : List Str} (h : l.length ≤ 2) (p : ys.Perm l) (s : sortedS ys = true) : ys = srt l := by
  have e : ∃ m : List Str, m.Perm l ∧ sortedS m = true := ⟨ys, p, s⟩
  unfold srt
  rw [dif_pos e]
  have c := e.choose_spec
  exact sort_uniq (p.trans c.1.symm) (by rw [c.1.length_eq]; exact h) s c.2
theorem srt_perm {l : List Str} : (srt l).Perm l := by
  unfold srt
  split
  · next h => exact h.choose_spec.1
  · exact List.Perm.refl _
/-! ### lists and tuples of words -/
theorem isW_ok {x : Str} (h : isW x) : PyData.strOk x = true := by
  unfold PyData.strOk
  rw [← Array.all_toList]
  refine List.all_eq_true.mpr fun c hc => ?_
  have := (h.2.2 c hc).2
  exact decide_eq_true (by omega)
theorem shaped_strs {ns : List Str} (h : ∀ x ∈ ns, isW x) : SeqAt.shaped (.list (ns.map PyData.str)) = true ∧ SeqAt.shaped (.tuple (ns.map PyData.str)) = true := by
  have h : PyData.canLayAll0 (ns.map PyData.str) = true ∧ PyData.depthAll (ns.map PyData.str) ≤ 1 := by
    induction ns with
    | nil => exact ⟨by simp [PyData.canLayAll0], by simp [PyData.depthAll]⟩
    | cons n ns ih =>
      have ih := ih fun x hx => h x (List.mem_cons_of_mem _ hx)
      exact ⟨by simp [PyData.canLayAll0, PyData.canLay0, ih.1, isW_ok (h n List.mem_cons_self)], by have := ih.2; simp [PyData.depthAll, PyData.depth]; omega⟩
  have h2 := h.2
  constructor <;> (unfold SeqAt.shaped; simp only [PyData.canLay0, PyData.depth, h.1, Bool.true_and]; exact decide_eq_true (by omega))
theorem dp_strs {K : PySem.W.Frag} {H : Hp} : ∀ (ns : List Str), DpAll K H (ns.map V.str) (ns.map PyData.str)
  | [] => .nil
  | n :: ns => .cons (.str n) (dp_strs ns)
theorem eqv_strs : ∀ (a b : List Str), PyData.eqvAll (a.map PyData.str) (b.map PyData.str) = decide (a = b)
  | [], [] => by simp [PyData.eqvAll]
  | [], _ :: _ => by simp [PyData.eqvAll]
  | _ :: _, [] => by simp [PyData.eqvAll]
  | x :: a, y :: b => by
    show (PyData.eqv (.str x) (.str y) && PyData.eqvAll (a.map PyData.str) (b.map PyData.str)) = _
    rw [eqv_strs a b]
    have : PyData.eqv (.str x) (.str y) = decide (x = y) := by
      simp only [PyData.eqv]
      exact Bool.eq_iff_iff.mpr (by simp)
    rw [this]
    exact Bool.eq_iff_iff.mpr (by simp)
theorem eq_tups {K : PySem.W.Frag} {H : Hp} {a c : Addr} {xs ys : List Str} (ha : H a = some (.tup (xs.map V.str))) (hc : H c = some (.tup (ys.map V.str))) (wx : ∀ x ∈ xs, isW x) (wy : ∀ x ∈ ys, isW x) {Q : VK} (q : Q (.bl (decide (xs = ys))) H) : rEqD K (.ref a) (.ref c) H Q :=
  ⟨_, _, .tup (Evl.st_of ha) (dp_strs xs), .tup (Evl.st_of hc) (dp_strs ys), (shaped_strs wx).2, (shaped_strs wy).2, by
    have : PyData.eqv (.tuple (xs.map PyData.str)) (.tuple (ys.map PyData.str)) = decide (xs = ys) := by simp only [PyData.eqv]; exact eqv_strs xs ys
    rw [this]; exact q⟩
theorem eq_lsts {K : PySem.W.Frag} {H : Hp} {a c : Addr} {xs ys : List Str} (ha : SqL K H a (xs.map V.str)) (hc : SqL K H c (ys.map V.str)) (wx : ∀ x ∈ xs, isW x) (wy : ∀ x ∈ ys, isW x) {Q : VK} (q : Q (.bl (decide (xs = ys))) H) : rEqD K (.ref a) (.ref c) H Q :=
  ⟨_, _, .lst ha (dp_strs xs), .lst hc (dp_strs ys), (shaped_strs wx).1, (shaped_strs wy).1, by
    have : PyData.eqv (.list (xs.map PyData.str)) (.list (ys.map PyData.str)) = decide (xs = ys) := by simp only [PyData.eqv]; exact eqv_strs xs ys
    rw [this]; exact q⟩
/-! ### either way round -/
theorem dEq_symm {α : Type} {g : Str → α → α → Bool} {l1 l2 : List (Str × α)} (n1 : (l1.map (·.1)).Nodup) (n2 : (l2.map (·.1)).Nodup) (h : ∀ k a b, (k, a) ∈ l1 → (k, b) ∈ l2 → g k a b = g k b a) : dEq g l1 l2 = dEq g l2 l1 := by
  refine Bool.eq_iff_iff.mpr ?_
  rw [dEq_iff n1 n2, dEq_iff n2 n1]
  constructor
  · rintro ⟨F, B⟩
    exact ⟨fun k b hb => (B k b hb).elim fun a ha => ⟨a, ha.1, by rw [← h k a b ha.1 hb]; exact ha.2⟩, fun k a ha => (F k a ha).elim fun b hb => ⟨b, hb.1, by rw [← h k a b ha hb.1]; exact hb.2⟩⟩
  · rintro ⟨F, B⟩
    exact ⟨fun k a ha => (B k a ha).elim fun b hb => ⟨b, hb.1, by rw [h k a b ha hb.1]; exact hb.2⟩, fun k b hb => (F k b hb).elim fun a ha => ⟨a, ha.1, by rw [h k a b ha.1 hb]; exact ha.2⟩⟩
theorem FE_symm {f1 f2 : Fl} (h1 : okFl f1) (h2 : okFl f2) : FE f1 f2 = FE f2 f1 := dEq_symm h1.2.1 h2.2.1 fun k a b _ _ => Bool.eq_iff_iff.mpr (by simp [eq_comm])
theorem TE_symm {s1 s2 : Sh} (z1 : okSh s1) (z2 : okSh s2) : TbE s1 s2 = TbE s2 s1 := dEq_symm z1.2.1 z2.2.1 fun k a b ha hb => by
  rw [FE_symm ((okSh_rows z1).2 _ ha).2 ((okSh_rows z2).2 _ hb).2]
  congr 1
  exact Bool.eq_iff_iff.mpr (by simp [eq_comm])
theorem TE_refl {s : Sh} (z : okSh s) : TbE s s = true := dEq_refl z.2.1 fun k a ha => by
  rw [FE_refl ((okSh_rows z).2 _ ha).2, decide_eq_true rfl]; rfl
/-! ### the shape's own == -/
/-- of lists and tuples of words, or of dicts -/
def rEqU (K : PySem.W.Frag) : R2 := fun x y H Q => rEqD K x y H Q ∨ rEqQ K x y H Q
theorem op_eqU {X : Cx} (hu : X.A.units + 64 < cLine) : OpR X (compareOp .Eq) (rEqU X.K) := fun pins s σ H x y v u Q I rx ry h => h.elim (op_eqD hu pins s σ H x y v u Q I rx ry) (op_eqQ hu pins s σ H x y v u Q I rx ry)
/-- what == of a shape answers -/
def EqR (K : PySem.W.Frag) (C : Addr) (x y : V) (H : Hp) (b : Bool) : Prop := ∃ (p : Addr) (fl : List Str) (s : Sh) (S : Addr → Prop), x = .ref p ∧ ShapeAt C H p fl s S ∧ okSh s ∧ (∀ z ∈ fl, isW z) ∧
  ((∃ (p2 : Addr) (fl2 : List Str) (s2 : Sh) (S2 : Addr → Prop), y = .ref p2 ∧ ShapeAt C H p2 fl2 s2 S2 ∧ okSh s2 ∧ (∀ z ∈ fl2, isW z) ∧ b = (decide (fl = fl2) && TbE s s2)) ∨ (∃ t, TyX K H y t ∧ (∀ H', Ex H H' → TyX K H' y t) ∧ PySem.W.kitOne K t (.ref C) = some false ∧ b = false))
section
variable {P : Program} {w : World} {K : PySem.W.Frag} {mg : Str → Option Value} {base : Heap} {C_Shape : Addr}
theorem ty_shape (T : Txt K mg C_Shape) {H : Hp} {p dx : Addr} {fs : List (Str × V)} (h : H p = some (.ins C_Shape dx fs)) : TyX K H (.ref p) (.ref C_Shape) := .base (.ins h T.cl_Shape T.kl_Shape T.gt_cls T.tk_cls T.km_Shape)
theorem ok_Shape_eq (T : Txt K mg C_Shape) (R : Prg K mg C_Shape) : ∃ f fd, FnOk P w K mg base CX0 1 f fd ["self", "other"] (spB2 (EqR K C_Shape)) ∧ EqFacts K C_Shape f ∧ Binds K fd ["self", "other"] [] := by
  obtain ⟨f, fd, F, fi, isf, kp⟩ := R.Shape_eq
  refine ⟨f, fd, F.ok sc_Shape_eq (fun vs H Q E h => ?_) (fun cdv A outer s H vs Q E hr h => ?_), ⟨isf, fi⟩, F.binds (fun _ _ _ _ _ _ us hl => match us, hl with | [_, _], _ => rfl)⟩
  · obtain ⟨a, y, b, rfl, _⟩ := h; rfl
  · obtain ⟨a, y, b, rfl, ⟨p, fl, z, S, e, hp, hz, wf, hy⟩, k⟩ := h
    cases e
    refine ⟨_, (pss_one (ps_ret (pe_and (pe_callB (r := rIsi K) call_isi (by rfl) T.isinstance (by decide +kernel) (pa_cons (pv 1) (pa_cons (pe_glob (v := .ref C_Shape) rfl T.at_Shape rfl) pa_nil))) (pe_and (pe_cmpR (r := rEqU K) (op_eqU hr.units) (show PE _ _ (tFld K _ _) from pe_fld (pv 0) rfl) (show PE _ _ (tFld K _ _) from pe_fld (pv 1) rfl) (nomark _)) (pe_one (pe_cmpR (r := rEqU K) (op_eqU hr.units) (show PE _ _ (tFld K _ _) from pe_fld (pv 0) rfl) (show PE _ _ (tFld K _ _) from pe_fld (pv 1) rfl) (nomark _))))))), ?_⟩
    obtain ⟨dx, ft, tb, hp1, hft, htb⟩ := hp
    rcases hy with ⟨p2, fl2, z2, S2, rfl, hp2, hz2, wf2, rfl⟩ | ⟨t, ty, ty', hk, rfl⟩
    · obtain ⟨dx2, ft2, tb2, hq1, hft2, htb2⟩ := hp2
      refine Evl.s_ret (v := .bl (decide (fl = fl2) && TbE z z2)) (Evl.ev_is (Evl.ev_andV (a := true) (b := decide (fl = fl2) && TbE z z2) (fun H1 e1 Q q => ⟨_, rfl, .ref p2, .ref C_Shape, .ref C_Shape, .ref C_Shape, true, rfl, .own C_Shape, ty_shape T (e1 _ _ hq1), T.se_Shape, q H1 (Ex.refl _)⟩) fun _ => ?_) rfl) fun H' e => k H' e
      refine Evl.ev_andV (a := decide (fl = fl2)) (b := TbE z z2) (fun H1 e1 Q q => ?_) (fun _ H1 e1 Q q => ?_)
      · exact ⟨_, rfl, a, C_Shape, dx, _, _, rfl, e1 _ _ hp1, T.cl_Shape, T.no_Shape_flags, shF_flags _ _, _, rfl, p2, C_Shape, dx2, _, _, rfl, e1 _ _ hq1, T.cl_Shape, T.no_Shape_flags, shF_flags _ _, .inl (eq_tups (e1 _ _ hft) (e1 _ _ hft2) wf wf2 (q H1 (Ex.refl _)))⟩
      · exact ⟨_, rfl, a, C_Shape, dx, _, _, rfl, e1 _ _ hp1, T.cl_Shape, T.no_Shape_table, shF_table _ _, _, rfl, p2, C_Shape, dx2, _, _, rfl, e1 _ _ hq1, T.cl_Shape, T.no_Shape_table, shF_table _ _, .inr (top_tab hz hz2 (rep_ex e1 htb) (rep_ex e1 htb2) (q H1 (Ex.refl _)))⟩
    · exact Evl.s_ret (v := .bl false) (Evl.ev_is (Evl.ev_andV (a := false) (b := false) (fun H1 e1 Q q => ⟨_, rfl, y, .ref C_Shape, t, .ref C_Shape, false, rfl, .own C_Shape, ty' H1 e1, hk, q H1 (Ex.refl _)⟩) fun h => nomatch h) rfl) fun H' e => k H' e
end
end Pk

namespace Pk
open PySem PySem.Spec PyProof.Rows L2 Ssb
open Evl (Ex Ev EvT EvL EvA EvU)
section
variable {K : PySem.W.Frag} {σ : L2.St} {H : Hp} {S c a : Addr} {m n : Nat} {Z : Addr → Prop} {tS tn te tv tl : TE} {ta : TA} {D : Ends} {tz tu : TS} {xs ys : List V} {v : V} {es : List (Key × V)}
theorem q_enumD {j1 j2 : Nat} (h : Ev tv σ H (.ref a)) (ha : H a = some (.dK es)) (Pv : Addr → Nat → L2.St → Hp → Prop) (h0 : ∀ lp H1, Ex H H1 → H lp = none → H1 lp = some (.lst (es.map fun kv => kV kv.1)) → Pv lp 0 σ H1)
    (hG : ∀ lp i σ' H', Pv lp i σ' H' → H' lp = some (.lst (es.map fun kv => kV kv.1)))
    (hs : ∀ (lp : Addr) (i : Nat) σ' H' (kv : Key × V), es[i]? = some kv → Pv lp i σ' H' → ∀ H2, Ex H' H2 → tu { D with nx := Pv lp (i + 1), ct := Pv lp (i + 1), bk := tz D } ((σ'.set j1 (some (.int (i : Int)))).set j2 (some (kV kv.1))) H2)
    (hd : ∀ lp σ' H', Pv lp es.length σ' H' → tz D σ' H') :
    tSeq (tFor (iEnum K (tCons (tCB (fun xs H Q => ∃ (a : Addr) (kvs : List (Key × V)), xs = [.ref a] ∧ Rd H a (.dK kvs) ∧ ∀ p, H p = none → Q (.ref p) (upd H p (.lst (kvs.map fun kv => kV kv.1)))) (tCons tv tNil)) tNil)) (gTup K 2 (gCons (gName j1) (gCons (gName j2) gNil))) tu) tz D σ H :=
  h H (Ex.refl _) _ fun H1 e1 => ⟨a, es, rfl, .inl (e1 _ _ ha), fun lp hlp => ⟨lp, es.map fun kv => kV kv.1, rfl, Evl.sq_of upd_same, for_it walk_enum (fun i σ' H' => Pv lp i σ' H') (h0 lp _ (e1.trans (Ex.new hlp)) (Evl.fresh_back e1 hlp) upd_same) (fun i σ' H' _ p => Evl.sq_of (hG lp i σ' H' p)) (fun i x σ' H0 H' hi pv y => by
    obtain ⟨Tq, x1, y1, rfl, nT, rfl, hx1, hy1⟩ := y
    have hx1 : V.int (i : Int) = x1 := Option.some.inj hx1
    subst hx1
    have hy1 : (es.map fun kv : Key × V => kV kv.1)[i]? = some y1 := hy1
    rw [List.getElem?_map] at hy1
    cases hes : es[i]? with
    | none => rw [hes] at hy1; cases hy1
    | some kv =>
      rw [hes] at hy1
      have hy1 : kV kv.1 = y1 := Option.some.inj hy1
      subst hy1
      exact ⟨Tq, _, rfl, Evl.st_of upd_same, rfl, _, _, rfl, _, _, rfl, rfl, hs lp i σ' H0 kv hes pv _ (Ex.new nT)⟩) fun σ' H' pv => hd lp σ' H' (by rw [List.length_map] at pv; exact pv)⟩⟩
end
theorem s_dputM {td ty tv : TE} {D : Ends} {σ : L2.St} {H : Hp} (h : tv σ H fun v H1 => td σ H1 fun x H2 => ty σ H2 fun y H3 => ∃ a H4, x = .ref a ∧ DPut H3 a y v H4 ∧ D.nx σ H4) : sDPut td ty tv D σ H := h
theorem erase_snoc {α : Type} {l : List α} {i t : Nat} {x : α} (h : l[i]? = some x) : (l.take (i + 1)).eraseIdx t = if i = t then (l.take i).eraseIdx t else (l.take i).eraseIdx t ++ [x] := by
  have hi : i < l.length := by
    rcases Nat.lt_or_ge i l.length with h' | h'
    · exact h'
    · rw [List.getElem?_eq_none_iff.mpr h'] at h; cases h
  have li : (l.take i).length = i := by rw [List.length_take]; omega
  rw [take_snoc h]
  by_cases c : i = t
  · rw [if_pos c, List.eraseIdx_append_of_length_le (by omega), List.eraseIdx_of_length_le (l := l.take i) (by omega), show t - (l.take i).length = 0 from by omega]
    simp
  · rw [if_neg c]
    by_cases c2 : t < i
    · rw [List.eraseIdx_append_of_lt_length (by omega)]
    · rw [List.eraseIdx_of_length_le (by rw [List.length_append, li]; show i + 1 ≤ t; omega), List.eraseIdx_of_length_le (l := l.take i) (by omega)]
section
variable {P : Program} {w : World} {K : PySem.W.Frag} {mg : Str → Option Value} {base : Heap} {C_Shape : Addr}
def spWo : Sp := fun vs H Q _ => ∃ (v : V) (t n : Nat) (P : Addr → Prop) (l : List (Str × D)), vs = [v, .int t] ∧ Rep H n P (.dic l) v ∧ (l.map (·.1)).Nodup ∧ l.length ≤ 1000 ∧
  ∀ H' q, Ex H H' → Rep H' n (fun b => P b ∨ H b = none) (.dic (l.eraseIdx t)) (.ref q) → Q (.ref q) H'
theorem ok__law_without (T : Txt K mg C_Shape) (R : Prg K mg C_Shape) : ∃ f fd, Fn P w K mg base "_law_without" 1 ["_law_table", "_law_at"] spWo f fd := by
  obtain ⟨f, fd, at_, F, kp⟩ := R._law_without
  refine ⟨f, fd, F.ok sc__law_without (fun vs H Q E h => ?_) (fun cdv A outer s H vs Q E hr h => ?_), at_, kp, F.binds (fun _ _ _ _ _ _ us hl => match us, hl with | [_, _], _ => rfl)⟩
  · obtain ⟨v, t, n, PP, l, rfl, _⟩ := h; rfl
  · obtain ⟨v, t, n, PP, l, rfl, hv, hnd, hl, k⟩ := h
    cases n with
    | zero => exact hv.elim
    | succ n =>
    obtain ⟨a, es, rfl, Pa, ha, l5, pr⟩ := hv
    have ekeys := pair_keys pr
    have le := pair_len pr
    refine ⟨_, (pss_cons (ps_set (i := 2) sc__law_without.nd rfl (Or.inl rfl) pe_dnewK)
  (pss_cons (ps_for PassesOwn.never rfl (pi_enum (by rfl) T.enumerate (pa_cons (pe_callTy (call_listD rfl) (by rfl) T.list (by decide +kernel) (pa_cons (pv 0) pa_nil)) pa_nil)) (show PG _ _ (gTup K 2 _) from pg_tup (n := 2) rfl (pgs_cons (pg_name (i := 3) sc__law_without.nd rfl (Or.inl rfl)) (pgs_cons (pg_name (i := 4) sc__law_without.nd rfl (Or.inl rfl)) pgs_nil)))
    (pss_one (ps_if (pt_cmpR op_ne (pv 3) (pv 1) (nomark _)) (pss_one (ps_dput (hu_of hr) (pv 2) (pv 4) (pe_dget (hu_of hr) (pv 0) (pv 4) (fun _ _ => rfl)) rfl)) pss_nil)))
  (pss_one (ps_ret (pv 2))))), ?_⟩
    intro a1 h1
    have n1a : a1 ≠ a := fun e => by rw [e, ha] at h1; cases h1
    have ha1 : (upd H a1 (.dK [])) a = some (.dK es) := by rw [upd_ne n1a.symm]; exact ha
    refine q_enumD (a := a) (es := es) (Evl.ev_var rfl) ha1 (fun lp i σ' H' => ∃ (es' : List (Key × V)) (o3 o4 : Option V), σ' = [some (.ref a), some (.int t), some (.ref a1), o3, o4] ∧ Ex H H' ∧ lp ≠ a1 ∧ H' lp = some (.lst (es.map fun kv => kV kv.1)) ∧ H' a1 = some (.dK es') ∧ Paired (fun (x : Str × D) (e : Key × V) => e.1 = Sum.inr x.1 ∧ Rep H' n (fun b => (PP b ∨ H b = none) ∧ b ≠ a1) x.2 e.2) ((l.take i).eraseIdx t) es')
      (fun lp H1 e1 hlp hlp1 => ⟨[], _, _, rfl, (Ex.new h1).trans e1, (fun e => by rw [e, upd_same] at hlp; cases hlp), hlp1, e1 _ _ upd_same, by simp; exact .nil⟩) (fun lp i σ' H' ⟨_, _, _, _, _, _, h, _⟩ => h) (fun lp i σ' H' kv hkv pv H2 e2 => ?_) fun lp σ' H' pv => ?_
    · obtain ⟨es', o3, o4, rfl, e, nlp, hlp, h1', pes⟩ := pv
      obtain ⟨kk, vj⟩ := kv
      obtain ⟨⟨nm, dj⟩, hdj, hk, hrj⟩ := pair_back pr hkv
      have hk : kk = Sum.inr nm := hk
      subst hk
      have hvj : valV es (Sum.inr nm : Key) = some vj := valV_at (by rw [ekeys]; exact inr_nd hnd) hkv
      have lt' : es'.length ≤ i := by
        rw [← pair_len pes]
        exact Nat.le_trans (List.length_eraseIdx_le _ _) (by rw [List.length_take]; omega)
      have hi : i < es.length := by
        rcases Nat.lt_or_ge i es.length with h' | h'
        · exact h'
        · rw [List.getElem?_eq_none_iff.mpr h'] at hkv; cases hkv
      refine Evl.s_when (b := !decide ((i : Int) = t)) (Evl.et_is (Evl.et_test (Evl.ev_op (Evl.ev_var rfl) (Evl.ev_var rfl) (Evl.rv_ne rfl))) ?_) (fun hb H3 e3 => ?_) (fun hb H3 e3 => ?_)
      · simp [eqV]
      · have nit : i ≠ t := fun z => by rw [z] at hb; simp at hb
        have e03 := e.trans (e2.trans e3)
        have h13 := e3 _ _ (e2 _ _ h1')
        refine ⟨_, rfl, _, rfl, a, vj, rfl, .inl ⟨es, Sum.inr nm, .inl (e03 _ _ ha), rfl, hvj.symm⟩, _, rfl, _, rfl, a1, _, rfl, .inl ⟨es', Sum.inr nm, h13, rfl, Evl.sz_lt (by omega), rfl⟩, ?_⟩
        have nv : valV es' (Sum.inr nm : Key) = none := vV_no (by
          rw [pair_keys pes]
          refine inr_not fun hm => ?_
          obtain ⟨p, hp, e⟩ := List.mem_map.mp hm
          have hp2 := List.mem_of_mem_eraseIdx hp
          exact not_take hnd (show (l.map (·.1))[i]? = some nm by rw [List.getElem?_map, hdj]; rfl) (by rw [← List.map_take]; exact List.mem_map.mpr ⟨p, hp2, e⟩))
        refine ⟨es' ++ [(Sum.inr nm, vj)], _, _, rfl, Ex.mut e03 h1, nlp, by rw [upd_ne nlp]; exact e3 _ _ (e2 _ _ hlp), by rw [upd_same, putK_new _ nv], ?_⟩
        rw [erase_snoc hdj, if_neg nit]
        refine pair_snoc (pair_imp pes fun a b h => ⟨h.1, rep_upd h13 (fun _ z => nomatch z) (fun b z => z.2) (rep_ex (e2.trans e3) h.2)⟩) ⟨rfl, rep_upd h13 (fun _ z => nomatch z) (fun b z => z.2) (rep_ex e03 (rep_Sd (fun b hb ne => ⟨.inl hb.1, fun z => ne (by rw [z]; exact h1)⟩) hrj))⟩
      · have eit : i = t := by simp at hb; omega
        refine ⟨es', _, _, rfl, e.trans (e2.trans e3), nlp, e3 _ _ (e2 _ _ hlp), e3 _ _ (e2 _ _ h1'), ?_⟩
        rw [erase_snoc hdj, if_pos eit]
        exact pair_imp pes fun a b h => ⟨h.1, rep_ex (e2.trans e3) h.2⟩
    · obtain ⟨es', o3, o4, rfl, e, nlp, hlp, h1', pes⟩ := pv
      rw [← le, List.take_of_length_le (Nat.le_refl _)] at pes
      refine Evl.s_ret (Evl.ev_var rfl) fun H7 e7 => k H7 a1 (e.trans e7) (rep_ex e7 ⟨a1, es', rfl, .inr h1, h1', Nat.le_trans (List.length_eraseIdx_le _ _) l5, pes⟩)
end
end Pk

namespace Pk
open PySem PySem.Spec PyProof.Rows L2 Ssb
open Evl (Ex Ev EvT EvL EvA EvU)
def okI2 (i : List (Str × Fl)) : Prop := i.length ≤ 1 ∧ ∀ q ∈ i, isW q.1 ∧ okFl q.2
theorem StAt.someS0 {S c p : Addr} {H H0 H1 : Hp} (_ : StAt H S c) (st : StAt H0 S c) (e : Ex H0 H1) (h : H1 p = none) : p ≠ S ∧ p ≠ c := (st.ex e).someS h
theorem et_tru {K : PySem.W.Frag} {σ : L2.St} {H : Hp} {te : L2.TE} {a : Addr} {es : List (Key × V)} (h : Ev te σ H (.ref a)) (ha : H a = some (.dK es)) : EvT (tTruA K te) σ H (!es.isEmpty) := fun H1 e Q q => h H1 e _ fun H2 e2 => ⟨!es.isEmpty, .inr (.inr ⟨es, (e.trans e2) _ _ ha, rfl⟩), q H2 e2⟩
theorem map_erase {α β : Type} (F : α → β) : ∀ (l : List α) (t : Nat), (l.map F).eraseIdx t = (l.eraseIdx t).map F
  | [], _ => rfl
  | x :: l, 0 => rfl
  | x :: l, t + 1 => by
    show F x :: (l.map F).eraseIdx t = F x :: (l.eraseIdx t).map F
    rw [map_erase F l t]
theorem okFl_erase {f : Fl} (h : okFl f) (t : Nat) : okFl (f.eraseIdx t) := by
  refine ⟨Nat.le_trans (List.length_eraseIdx_le _ _) h.1, ?_, fun p hp => h.2.2 p (List.mem_of_mem_eraseIdx hp)⟩
  exact (List.Sublist.map _ (List.eraseIdx_sublist _ _)).nodup h.2.1
/-- one field's words turned about -/
def revF (f : Fl) (y : Str) : Fl := f.map fun p => if p.1 = y then (p.1, p.2.reverse) else p
theorem okFl_rev {f : Fl} (h : okFl f) (y : Str) : okFl (revF f y) := by
  unfold revF
  refine ⟨by rw [List.length_map]; exact h.1, ?_, fun p hp => ?_⟩
  · rw [List.map_map]
    have : ((fun x : Str × List Str => x.1) ∘ fun p : Str × List Str => if p.1 = y then (p.1, p.2.reverse) else p) = fun x => x.1 := by
      funext p
      show (if p.1 = y then (p.1, p.2.reverse) else p).1 = p.1
      split <;> rfl
    rw [this]; exact h.2.1
  · obtain ⟨q, hq, rfl⟩ := List.mem_map.mp hp
    have o := h.2.2 q hq
    split
    · exact ⟨o.1, by show 2 ≤ q.2.reverse.length; rw [List.length_reverse]; exact o.2.1, by show q.2.reverse.length ≤ 3; rw [List.length_reverse]; exact o.2.2.1, fun x hx => o.2.2.2.1 x (List.mem_reverse.mp hx), (List.reverse_perm _).nodup_iff.mpr o.2.2.2.2⟩
    · exact o
theorem pair_put {F G : D → V → Prop} {y : Str} {d' : D} {v' : V} (hF : ∀ d v, F d v → G d v) (hn : G d' v') : ∀ {l : List (Str × D)} {es : List (Key × V)}, Paired (fun (q : Str × D) (e : Key × V) => e.1 = Sum.inr q.1 ∧ F q.2 e.2) l es →
    Paired (fun (q : Str × D) (e : Key × V) => e.1 = Sum.inr q.1 ∧ G q.2 e.2) (l.map fun p => if p.1 = y then (p.1, d') else p) (es.map fun kv => if kv.1 = (Sum.inr y : Key) then (kv.1, v') else kv)
  | _, _, .nil => .nil
  | (j, d0) :: l, e :: es, .cons h t => by
    refine .cons ?_ (pair_put hF hn t)
    have h1 : e.1 = Sum.inr j := h.1
    by_cases c : j = y
    · have : e.1 = (Sum.inr y : Key) := by rw [h1, c]
      show (if e.1 = (Sum.inr y : Key) then (e.1, v') else e).1 = Sum.inr (if j = y then (j, d') else (j, d0)).1 ∧ _
      rw [if_pos this, if_pos c]
      exact ⟨h1, by show G (if j = y then (j, d') else (j, d0)).2 (if e.1 = (Sum.inr y : Key) then (e.1, v') else e).2; rw [if_pos this, if_pos c]; exact hn⟩
    · have : ¬ e.1 = (Sum.inr y : Key) := fun z => c (Sum.inr.inj (h1.symm.trans z))
      show (if e.1 = (Sum.inr y : Key) then (e.1, v') else e).1 = Sum.inr (if j = y then (j, d') else (j, d0)).1 ∧ _
      rw [if_neg this, if_neg c]
      exact ⟨h1, by show G (if j = y then (j, d') else (j, d0)).2 (if e.1 = (Sum.inr y : Key) then (e.1, v') else e).2; rw [if_neg this, if_neg c]; exact hF _ _ h.2⟩
theorem revF_map {f : Fl} {y : Str} {ws : List Str} (nd : (f.map (·.1)).Nodup) (h : (y, ws) ∈ f) : ((revF f y).map fun p => (p.1, D.tup (p.2.map .str))) = (f.map fun p => (p.1, D.tup (p.2.map .str))).map fun p => if p.1 = y then (p.1, D.tup (ws.reverse.map .str)) else p := by
  unfold revF
  rw [List.map_map, List.map_map]
  refine List.map_congr_left fun q hq => ?_
  obtain ⟨k, us⟩ := q
  show ((if k = y then (k, us.reverse) else (k, us)).1, D.tup ((if k = y then (k, us.reverse) else (k, us)).2.map .str)) = if k = y then (k, D.tup (ws.reverse.map .str)) else (k, D.tup (us.map .str))
  by_cases c : k = y
  · subst c
    rw [if_pos rfl, if_pos rfl, one_val nd hq h]
  · rw [if_neg c, if_neg c]
theorem ls01 {d : D} {f : Fl} (h : ls0 d f) : ls1 d f [] := by
  obtain ⟨l, rfl, h1, h2, h3⟩ := h
  exact ⟨l, [], rfl, h1, h2, h3, .nil⟩
theorem ls10 {d : D} {f : Fl} (h : ls1 d f []) : ls0 d f := by
  obtain ⟨l, e, rfl, h1, h2, h3, pr⟩ := h
  cases pr
  exact ⟨l, rfl, h1, h2, h3⟩
theorem putK_old {es : List (Key × V)} {k : Key} {v : V} (h : k ∈ es.map (·.1)) : putK es k v = es.map fun kv => if kv.1 = k then (kv.1, v) else kv := by
  unfold putK
  rw [if_pos]
  obtain ⟨e, he, rfl⟩ := List.mem_map.mp h
  exact List.any_eq_true.mpr ⟨e, he, decide_eq_true rfl⟩
section
variable {P : Program} {w : World} {K : PySem.W.Frag} {mg : Str → Option Value} {base : Heap} {C_Shape : Addr}
def spCl (m : Nat) : Sp := fun vs H Q _ => ∃ (S c : Addr) (v : V) (way : Int) (sp : Str) (P : Addr → Prop) (d : D) (f : Fl) (i : List (Str × Fl)), vs = [.ref S, v, .int way, .str sp] ∧ StAt H S c ∧ Rep H (2 * m + 2) P d v ∧ ls1 d f i ∧ okFl f ∧ okI2 i ∧ isW sp ∧ ¬ P S ∧ ¬ P c ∧ (i ≠ [] → 2 ≤ m) ∧ 1 ≤ m ∧
  ∀ H' v' d' f' i', Mv S c H H' → Rep H' (2 * m + 2) (fun b => P b ∨ H b = none) d' v' → ls1 d' f' i' → okFl f' → okI2 i' → (∀ q ∈ i', q.1 = sp ∨ q.1 ∈ i.map (·.1)) → (i = [] → i' = []) → Q v' H'
theorem ok__law_changed_list (T : Txt K mg C_Shape) (R : Prg K mg C_Shape) : ∀ m, ∃ f fd, Fn P w K mg base "_law_changed_list" (2 * m + 12) ["_law_stream_here", "_law_described", "_law_way", "_law_spare"] (spCl m) f fd
  | 0 => by
    obtain ⟨f, fd, at_, F, kp⟩ := R._law_changed_list
    refine ⟨f, fd, F.ok sc__law_changed_list (fun vs H Q E h => ?_) (fun cdv A outer s H vs Q E hr h => ?_), at_, kp, F.binds (fun _ _ _ _ _ _ us hl => match us, hl with | [_, _, _, _], _ => rfl)⟩
    · obtain ⟨S, c, v, way, sp, PP, d, f, i, rfl, _⟩ := h; rfl
    · obtain ⟨S, c, v, way, sp, PP, d, f, i, rfl, _, _, _, _, _, _, _, _, _, m1, _⟩ := h; exact absurd m1 (by decide)
  | m + 1 => by
    obtain ⟨_, _, G__law_changed_list⟩ := ok__law_changed_list T R m
    obtain ⟨_, _, G__law_without⟩ := ok__law_without (P := P) (w := w) (base := base) T R
    obtain ⟨_, _, G__law_draw⟩ := ok__law_draw (P := P) (w := w) (base := base) T R
    obtain ⟨_, _, G__law_copy⟩ := ok__law_copy (P := P) (w := w) (base := base) T R (2 * (m + 1) + 1)
    obtain ⟨f, fd, at_, F, kp⟩ := R._law_changed_list
    refine ⟨f, fd, F.ok sc__law_changed_list (fun vs H Q E h => ?_) (fun cdv A outer s H vs Q E hr h => ?_), at_, kp, F.binds (fun _ _ _ _ _ _ us hl => match us, hl with | [_, _, _, _], _ => rfl)⟩
    · obtain ⟨S, c, v, way, sp, PP, d, f, i, rfl, _⟩ := h; rfl
    · obtain ⟨S, c, v, way, sp, PP, d, f, i, rfl, st, hv, hd, okf, oki, spW, nPS, nPc, i2, _, k⟩ := h
      refine ⟨_, (pss_cons (ps_set (i := 4) sc__law_changed_list.nd rfl (Or.inl rfl) (pe_dget (hu_of hr) (pv 1) pe_str (fun _ _ => rfl)))
  (pss_cons (ps_set (i := 5) sc__law_changed_list.nd rfl (Or.inl rfl) (pe_dget (hu_of hr) (pv 1) pe_str (fun _ _ => rfl)))
  (pss_cons (ps_if (PW.pt (pw_and (pt_cmpR op_eq (pv 2) pe_int (nomark _)) (pw_and1 (show PT _ _ (tTruA K _) from pt_truth (pv 4) (by intro _; rfl))))) (pss_cons (ps_set (i := 6) sc__law_changed_list.nd rfl (Or.inl rfl) (pe_ix (r := rIxL K) ix_list (pe_callB (r := rSortDK) (call_sortedD rfl) (by rfl) T.sorted (by decide +kernel) (pa_cons (pv 4) pa_nil)) (pcl G__law_draw hr (pa_cons (pv 0) (pa_cons (pe_callB call_lenD (by rfl) T.len (by decide +kernel) (pa_cons (pv 4) pa_nil)) pa_nil))) (fun _ _ => rfl)))
  (pss_cons (ps_set (i := 7) sc__law_changed_list.nd rfl (Or.inl rfl) (pcl G__law_copy hr (pa_cons (pv 4) pa_nil)))
  (pss_cons (ps_dput (hu_of hr) (pv 7) (pv 6) (RT.pe_tupRev rfl (by rfl) T.tuple (by rfl) T.reversed (pe_callTy (r := rListA K) call_list_of (by rfl) T.list (by decide +kernel) (pa_cons (pe_dget (hu_of hr) (pv 4) (pv 6) (fun _ _ => rfl)) pa_nil))) rfl)
  (pss_one (ps_ret (pe_disp (pps_cons pe_str (pv 7) (pps_cons pe_str (pv 5) pps_nil)) (by rfl) (by rfl) (fun z => by cases z) (by decide))))))) pss_nil)
  (pss_cons (ps_if (PW.pt (pw_and (pt_cmpR op_eq (pv 2) pe_int (nomark _)) (pw_and1 (show PT _ _ (tTruA K _) from pt_truth (pv 4) (by intro _; rfl))))) (pss_one (ps_ret (pe_disp (pps_cons pe_str (pcl G__law_without hr (pa_cons (pv 4) (pa_cons (pcl G__law_draw hr (pa_cons (pv 0) (pa_cons (pe_callB call_lenD (by rfl) T.len (by decide +kernel) (pa_cons (pv 4) pa_nil)) pa_nil))) pa_nil))) (pps_cons pe_str (pv 5) pps_nil)) (by rfl) (by rfl) (fun z => by cases z) (by decide)))) pss_nil)
  (pss_cons (ps_if (pt_cmpR op_eq (pv 2) pe_int (nomark _)) (pss_one (ps_ret (pe_disp (pps_cons pe_str (pv 4) (pps_cons pe_str pe_dnewK pps_nil)) (by rfl) (by rfl) (fun z => by cases z) (by decide)))) pss_nil)
  (pss_cons (ps_if (PW.pt (pw_and (pt_cmpR op_eq (pv 2) pe_int (nomark _)) (pw_and1 (show PT _ _ (tTruA K _) from pt_truth (pv 5) (by intro _; rfl))))) (pss_one (ps_ret (pe_disp (pps_cons pe_str (pv 4) (pps_cons pe_str (pe_disp (pps_cons (pv 3) (pe_dget (hu_of hr) (pv 5) (pe_ix (r := rIxL K) ix_list (pe_callTy (call_listD rfl) (by rfl) T.list (by decide +kernel) (pa_cons (pv 5) pa_nil)) pe_int (fun _ _ => rfl)) (fun _ _ => rfl)) pps_nil) (by rfl) (by rfl) (fun z => by cases z) (by decide)) pps_nil)) (by rfl) (by rfl) (fun z => by cases z) (by decide)))) pss_nil)
  (pss_cons (ps_if (show PT _ _ (tTruA K _) from pt_truth (pv 5) (by intro _; rfl)) (pss_cons (ps_set (i := 6) sc__law_changed_list.nd rfl (Or.inl rfl) (pe_ix (r := rIxL K) ix_list (pe_callTy (call_listD rfl) (by rfl) T.list (by decide +kernel) (pa_cons (pv 5) pa_nil)) pe_int (fun _ _ => rfl)))
  (pss_one (ps_ret (pe_disp (pps_cons pe_str (pv 4) (pps_cons pe_str (pe_disp (pps_cons (pv 6) (pcl G__law_changed_list hr (pa_cons (pv 0) (pa_cons (pe_dget (hu_of hr) (pv 5) (pv 6) (fun _ _ => rfl)) (pa_cons (pe_op op_mod (pv 2) pe_int) (pa_cons (pv 3) pa_nil))))) pps_nil) (by rfl) (by rfl) (fun z => by cases z) (by decide)) pps_nil)) (by rfl) (by rfl) (fun z => by cases z) (by decide))))) pss_nil)
  (pss_one (ps_ret (pv 1)))))))))), ?_⟩
      obtain ⟨l, e, rfl, l2, lf, li, pre⟩ := id hd
      obtain ⟨a, es, rfl, Pa, ha, l5, pr⟩ := id hv
      obtain ⟨fv, hfv, rf⟩ := rep_entry pr lf
      obtain ⟨iv, hiv, ri⟩ := rep_entry pr li
      refine ⟨_, rfl, a, fv, rfl, .inl ⟨es, Sum.inr "fields", .inl ha, rfl, hfv.symm⟩, ?_⟩
      refine ⟨_, rfl, a, iv, rfl, .inl ⟨es, Sum.inr "inner", .inl ha, rfl, hiv.symm⟩, ?_⟩
      obtain ⟨fa, fes, rfl, Pfa, hfa, fl5, fpr⟩ := id rf
      obtain ⟨ia, ies, rfl, Pia, hia, il5, ipr⟩ := id ri
      have fkeys : fes.map (·.1) = (f.map (·.1)).map Sum.inr := by rw [pair_keys fpr, List.map_map, List.map_map, List.map_map]; rfl
      have fle : fes.length = f.length := by have := congrArg List.length fkeys; simpa using this
      have ile : ies.length = i.length := by rw [← pair_len ipr, pair_len pre]
      have ilm : e.length = i.length := pair_len pre
      have old : ∀ {d' : D} {v' : V} {H2 : Hp} {p : Addr}, Rep H (2 * (m + 1) + 1) (fun b => PP b ∧ b ≠ a) d' v' → H p = none → Mv S c H H2 → Rep H2 (2 * (m + 1) + 1) (fun b => (PP b ∨ H b = none) ∧ b ≠ p) d' v' := fun h hp mv =>
        rep_mv mv (fun z => z.1.elim nPS fun h => (st.someS h).1 rfl) (fun z => z.1.elim nPc fun h => (st.someS h).2 rfl) (rep_Sd (fun b hb ne => ⟨.inl hb.1, fun z => ne (by rw [z]; exact hp)⟩) h)
      have fin : ∀ {H2 : Hp} {p : Addr} {v1 v2 : V} {f' : Fl} {i' : List (Str × Fl)} {e' : List (Str × D)}, H p = none → Mv S c H H2 → H2 p = some (.dK []) → Rep H2 (2 * (m + 1) + 1) (fun b => (PP b ∨ H b = none) ∧ b ≠ p) (flD f') v1 → Rep H2 (2 * (m + 1) + 1) (fun b => (PP b ∨ H b = none) ∧ b ≠ p) (.dic e') v2 →
          Paired (fun (p : Str × D) (q : Str × Fl) => p.1 = q.1 ∧ ls0 p.2 q.2) e' i' → okFl f' → okI2 i' → (∀ q ∈ i', q.1 = sp ∨ q.1 ∈ i.map (·.1)) → (i = [] → i' = []) → Q (.ref p) (upd H2 p (.dK [(Sum.inr "fields", v1), (Sum.inr "inner", v2)])) := fun {H2 p v1 v2 f' i' e'} hp mv h2 r1 r2 pe o1 o2 hi he =>
        k _ (.ref p) (.dic [("fields", flD f'), ("inner", .dic e')]) f' i' (mv.mut hp) ⟨p, _, rfl, .inr hp, upd_same, (by show 2 ≤ 100000; decide), .cons ⟨rfl, rep_lock h2 (fun b z => z.2) r1⟩ (.cons ⟨rfl, rep_lock h2 (fun b z => z.2) r2⟩ .nil)⟩ ⟨_, e', rfl, rfl, lk2a, lk2b, pe⟩ o1 o2 hi he
      have okI : ∀ q ∈ i, q.1 = sp ∨ q.1 ∈ i.map (·.1) := fun q hq => .inr (List.mem_map.mpr ⟨q, hq, rfl⟩)
      -- words turned about
      refine Evl.q_when (b := (decide (V.int way = .int 0) && !fes.isEmpty)) (Evl.et_and (Evl.et_test (Evl.ev_op (Evl.ev_var rfl) Evl.ev_c (Evl.rv_eq rfl))) fun _ => et_tru (Evl.ev_var rfl) hfa) (fun hb H1 e1 => ?_) fun _ H1 e1 => ?_
      · have ne : 1 ≤ f.length := by
          have := (Bool.and_eq_true_iff.mp hb).2
          cases fes with
          | nil => cases this
          | cons x fs => rw [← fle]; exact Nat.succ_le_succ (Nat.zero_le _)
        refine ⟨_, rfl, fa, fes, f.map (·.1), rfl, .inl (e1 _ _ hfa), fkeys, by rw [List.length_map]; have := okf.1; omega, fun ys p perm so hp => ?_⟩
        have m1 := (Mv.ex st e1).tx (Ex.new (o := .lst (ys.map V.str)) hp)
        have hfa2 := m1.fr fa _ (fun z => nPS (z ▸ Pfa.1)) (fun z => nPc (z ▸ Pfa.1)) hfa
        refine ⟨_, rfl, _, rfl, fa, fes, rfl, hfa2, S, c, _, rfl, m1.z, by omega, by have := okf.1; omega, fun H3 r m3 r0 r1 => ?_⟩
        have h3p := m3.fr p _ (m1.z.someS0 st e1 hp).1 (m1.z.someS0 st e1 hp).2 upd_same
        have m03 := m1.trans m3
        have lys : ys.length = f.length := by rw [perm.length_eq, List.length_map]
        obtain ⟨v0, hv0, hat⟩ := at_get (xs := ys.map V.str) r0 (by rw [List.length_map]; omega)
        obtain ⟨y, hy, rfl⟩ := str_at hv0
        obtain ⟨ws, hyf⟩ := key_mem (perm.mem_iff.mp (List.mem_of_getElem? hy))
        refine ⟨p, ys.map V.str, r, .str y, rfl, rfl, Evl.sq_of h3p, hat, ?_⟩
        refine ⟨_, rfl, .ref fa, _, flD f, rfl, rep_mv m03 (fun z => nPS z.1) (fun z => nPc z.1) rf, kn_flD okf _, fun H4 v4 e4 hr4 => ?_⟩
        obtain ⟨ca, ces, rfl, Pca, hca, cl5, cpr⟩ := id hr4
        obtain ⟨wv, hwv, rwv⟩ := pair_lk (F := fun d v => Rep H (2 * (m + 1)) (fun b => (PP b ∧ b ≠ a) ∧ b ≠ fa) d v) fpr (k := y) (d := .tup (ws.map .str)) (lk_of_mem (by rw [List.map_map]; exact okf.2.1) (List.mem_map.mpr ⟨_, hyf, rfl⟩))
        obtain ⟨wa, rfl, hwa⟩ := rep_words rwv
        have m04 := m03.tx e4
        have hfa4 := m04.fr fa _ (fun z => nPS (z ▸ Pfa.1)) (fun z => nPc (z ▸ Pfa.1)) hfa
        have hwa4 := m04.tup hwa
        refine ⟨_, rfl, _, rfl, fa, .ref wa, rfl, .inl ⟨fes, Sum.inr y, .inl hfa4, rfl, hwv.symm⟩, wa, ws.map V.str, rfl, .inr (Evl.st_of hwa4), fun l0 hl0 => ⟨l0, ws.map V.str, rfl, Evl.sq_of upd_same, fun q hq => ?_⟩⟩
        have e46 : Ex H4 (upd (upd H4 l0 (.lst (ws.map V.str))) q (.tup (ws.map V.str).reverse)) := (Ex.new hl0).trans (Ex.new hq)
        have hq6 : (upd (upd H4 l0 (.lst (ws.map V.str))) q (.tup (ws.map V.str).reverse)) q = some (.tup (ws.map V.str).reverse) := upd_same
        generalize (upd (upd H4 l0 (.lst (ws.map V.str))) q (.tup (ws.map V.str).reverse)) = H6 at e46 hq6 ⊢
        have cle : ces.length = f.length := by rw [← pair_len cpr, List.length_map]
        have hca6 := e46 _ _ hca
        refine ⟨_, rfl, _, rfl, ca, _, rfl, .inl ⟨ces, Sum.inr y, hca6, rfl, Evl.sz_lt (by have := okf.1; omega), rfl⟩, ?_⟩
        have ck : (Sum.inr y : Key) ∈ ces.map (·.1) := by
          rw [pair_keys cpr]
          exact List.mem_map.mpr ⟨y, by rw [List.map_map]; exact List.mem_map.mpr ⟨_, hyf, rfl⟩, rfl⟩
        rw [putK_old ck]
        have mH7 : Mv S c H (upd H6 ca (.dK (ces.map fun kv => if kv.1 = (Sum.inr y : Key) then (kv.1, .ref q) else kv))) := (m04.tx e46).mut (m03.back Pca)
        have nqc : q ≠ ca := fun z => by rw [z, hca6] at hq6; cases hq6
        have rc : Rep (upd H6 ca (.dK (ces.map fun kv => if kv.1 = (Sum.inr y : Key) then (kv.1, .ref q) else kv))) (2 * (m + 1) + 1) (fun b => H3 b = none) (flD (revF f y)) (.ref ca) := by
          refine ⟨ca, _, rfl, Pca, upd_same, by rw [List.length_map]; have := (okFl_rev okf y).1; omega, ?_⟩
          rw [revF_map okf.2.1 hyf]
          refine pair_put (F := fun d v => Rep H4 (2 * (m + 1)) (fun b => H3 b = none ∧ b ≠ ca) d v) (fun d v h => rep_lock hca6 (fun b z => z.2) (rep_ex e46 h)) ?_ cpr
          refine ⟨q, (ws.map V.str).reverse, rfl, by rw [upd_ne nqc]; exact hq6, by rw [List.length_map]; have := (okf.2.2 _ hyf).2.2.1; rw [List.length_reverse]; exact Nat.le_trans this (by decide), ?_⟩
          rw [← List.map_reverse]
          exact pair_strs
        generalize (upd H6 ca (.dK (ces.map fun kv => if kv.1 = (Sum.inr y : Key) then (kv.1, V.ref q) else kv))) = H7 at mH7 rc ⊢
        intro p2 hp2
        refine ⟨_, rfl, _, rfl, upd_same, [(Sum.inr "fields", _), (Sum.inr "inner", _)], rfl, (by show 2 ≤ 15; decide), ?_⟩
        rw [merge2 nFI]
        have m8 := mH7.tx (Ex.new (o := .dK []) hp2)
        have hp0 := mH7.back hp2
        exact fin hp0 m8 upd_same (rep_ex (Ex.new hp2) (rep_Sd (fun b hb ne => ⟨.inr (m03.back hb), fun z => ne (z ▸ hp2)⟩) rc)) (old ri hp0 m8) pre (okFl_rev okf y) oki okI id
      -- a field less
      refine Evl.q_when (b := (decide (V.int way = .int 1) && !fes.isEmpty)) (Evl.et_and (Evl.et_test (Evl.ev_op (Evl.ev_var rfl) Evl.ev_c (Evl.rv_eq rfl))) fun _ => et_tru (Evl.ev_var rfl) (e1 _ _ hfa)) (fun hb H1b e1b => ?_) fun _ H1b e1b => ?_
      · have ne : 1 ≤ f.length := by
          have := (Bool.and_eq_true_iff.mp hb).2
          cases fes with
          | nil => cases this
          | cons x fs => rw [← fle]; exact Nat.succ_le_succ (Nat.zero_le _)
        intro p hp
        have m1 := (Mv.ex st (e1.trans e1b)).tx (Ex.new (o := .dK []) hp)
        have hp0 := Evl.fresh_back (e1.trans e1b) hp
        have hfa2 := m1.fr fa _ (fun z => nPS (z ▸ Pfa.1)) (fun z => nPc (z ▸ Pfa.1)) hfa
        refine ⟨_, rfl, _, rfl, _, rfl, fa, fes, rfl, hfa2, S, c, _, rfl, m1.z, by omega, by have := okf.1; omega, fun H3 r m3 r0 r1 => ?_⟩
        have m03 := m1.trans m3
        have h3p := m3.fr p _ (m1.z.someS0 st (e1.trans e1b) hp).1 (m1.z.someS0 st (e1.trans e1b) hp).2 upd_same
        refine ⟨.ref fa, r.toNat, 2 * (m + 1) + 1, _, (f.map fun p : Str × List Str => (p.1, D.tup (p.2.map D.str))), (show [V.ref fa, V.int r] = [V.ref fa, V.int (r.toNat : Int)] by rw [Int.toNat_of_nonneg r0]), old rf hp0 m03, by rw [List.map_map]; exact okf.2.1, by rw [List.length_map]; have := okf.1; omega, fun H4 q e4 hq4 => ?_⟩
        refine ⟨_, rfl, e4 _ _ h3p, [(Sum.inr "fields", _), (Sum.inr "inner", _)], rfl, (by show 2 ≤ 15; decide), ?_⟩
        rw [merge2 nFI]
        rw [map_erase] at hq4
        exact fin hp0 (m03.tx e4) (e4 _ _ h3p) (rep_S (fun b hb => hb.elim id fun h => ⟨.inr (m03.back h), fun z => by rw [z, h3p] at h; cases h⟩) hq4) (old ri hp0 (m03.tx e4)) pre (okFl_erase okf _) oki okI id
      have e2 := e1.trans e1b
      -- no inner list
      refine Evl.q_when (b := decide (V.int way = .int 2)) (Evl.et_test (Evl.ev_op (Evl.ev_var rfl) Evl.ev_c (Evl.rv_eq rfl))) (fun hb H2 e2b => ?_) fun _ H2 e2b => ?_
      · intro p hp
        have m1 := (Mv.ex st (e2.trans e2b)).tx (Ex.new (o := .dK []) hp)
        have hp0 := Evl.fresh_back (e2.trans e2b) hp
        refine ⟨_, rfl, fun q hq => ?_⟩
        have hpq : (upd (upd H2 p (.dK [])) q (.dK [])) p = some (.dK []) := (Ex.new hq) _ _ upd_same
        refine ⟨hpq, [(Sum.inr "fields", _), (Sum.inr "inner", _)], rfl, (by show 2 ≤ 15; decide), ?_⟩
        rw [merge2 nFI]
        have m2 := m1.tx (Ex.new (o := .dK []) hq)
        refine fin (e' := []) (i' := []) hp0 m2 hpq (old rf hp0 m2) ⟨q, [], rfl, ⟨.inr (m1.back hq), fun z => by rw [z, upd_same] at hq; cases hq⟩, upd_same, by decide, .nil⟩ .nil okf ⟨by decide, fun q h => nomatch h⟩ (fun q h => nomatch h) fun _ => rfl
      have e3 := e2.trans e2b
      have one : ies.isEmpty = false → ∃ nm g d0 vv, i = [(nm, g)] ∧ e = [(nm, d0)] ∧ ies = [(Sum.inr nm, vv)] ∧ ls0 d0 g ∧ Rep H (2 * (m + 1)) (fun b => (PP b ∧ b ≠ a) ∧ b ≠ ia) d0 vv := by
        intro hne
        clear hd hv li old fin k rf ri G__law_changed_list
        have o1 := oki.1
        cases pre with
        | nil => cases ipr; cases hne
        | cons h1 t1 =>
          cases t1 with
          | cons _ _ => simp at o1
          | nil =>
            cases ipr with
            | cons h2 t2 =>
              cases t2
              rename_i x1 y1 z1
              obtain ⟨n1, d1⟩ := x1
              obtain ⟨n2, g2⟩ := y1
              obtain ⟨kk, vv⟩ := z1
              have h3 : n1 = n2 := h1.1
              have h4 : kk = Sum.inr n1 := h2.1
              subst h3 h4
              exact ⟨n1, g2, d1, vv, rfl, rfl, rfl, h1.2, h2.2⟩
      -- another name for it
      refine Evl.q_when (b := (decide (V.int way = .int 3) && !ies.isEmpty)) (Evl.et_and (Evl.et_test (Evl.ev_op (Evl.ev_var rfl) Evl.ev_c (Evl.rv_eq rfl))) fun _ => et_tru (Evl.ev_var rfl) (e3 _ _ hia)) (fun hb H3 e3b => ?_) fun _ H3 e3b => ?_
      · obtain ⟨nm, g, d0, vv, rfl, rfl, rfl, hls, rvv⟩ := one (by
          have := (Bool.and_eq_true_iff.mp hb).2
          cases h : ies.isEmpty with
          | true => rw [h] at this; cases this
          | false => rfl)
        intro p hp
        have m1 := (Mv.ex st (e3.trans e3b)).tx (Ex.new (o := .dK []) hp)
        have hp0 := Evl.fresh_back (e3.trans e3b) hp
        refine ⟨_, rfl, fun q hq => ?_⟩
        have hpq : (upd (upd H3 p (.dK [])) q (.dK [])) p = some (.dK []) := (Ex.new hq) _ _ upd_same
        have m2 := m1.tx (Ex.new (o := .dK []) hq)
        have hia2 := m2.fr ia _ (fun z => nPS (z ▸ Pia.1)) (fun z => nPc (z ▸ Pia.1)) hia
        refine ⟨_, rfl, _, rfl, _, rfl, ia, _, rfl, .inl hia2, fun lp hlp => ?_⟩
        have e5 : Ex (upd H3 p (.dK [])) (upd (upd (upd H3 p (.dK [])) q (.dK [])) lp (.lst [V.str nm])) := (Ex.new hq).trans (Ex.new hlp)
        have m3 := m1.tx e5
        have hia3 := m3.fr ia _ (fun z => nPS (z ▸ Pia.1)) (fun z => nPc (z ▸ Pia.1)) hia
        have hq3 : (upd (upd (upd H3 p (.dK [])) q (.dK [])) lp (.lst [V.str nm])) q = some (.dK []) := (Ex.new hlp) _ _ upd_same
        have hp3 : (upd (upd (upd H3 p (.dK [])) q (.dK [])) lp (.lst [V.str nm])) p = some (.dK []) := e5 _ _ upd_same
        refine ⟨lp, [V.str nm], 0, .str nm, rfl, rfl, Evl.sq_of upd_same, rfl, ia, vv, rfl, .inl ⟨_, Sum.inr nm, .inl hia3, rfl, by rw [vV_cons, if_pos rfl]⟩, hq3, [(Sum.inr sp, vv)], rfl, (by show 1 ≤ 15; decide), ?_⟩
        show _ ∧ _
        have nqp : q ≠ p := fun z => by rw [z, upd_same] at hq; cases hq
        have hq0 : H q = none := m1.back hq
        refine ⟨by rw [upd_ne nqp.symm]; exact hp3, [(Sum.inr "fields", _), (Sum.inr "inner", _)], rfl, (by show 2 ≤ 15; decide), ?_⟩
        rw [merge2 nFI]
        have m4 := m3.mut (o := .dK [((Sum.inr sp : Key), vv)]) hq0
        refine fin (e' := [(sp, d0)]) (i' := [(sp, g)]) hp0 m4 (by rw [upd_ne nqp.symm]; exact hp3) (old rf hp0 m4) ⟨q, _, rfl, ⟨.inr hq0, nqp⟩, upd_same, (by show 1 ≤ 100000; decide), .cons ⟨rfl, ?_⟩ .nil⟩ (.cons ⟨rfl, hls⟩ .nil) okf ⟨(by show 1 ≤ 1; decide), fun z hz => by rw [List.mem_singleton.mp hz]; exact ⟨spW, (oki.2 _ List.mem_cons_self).2⟩⟩ (fun z hz => .inl (by rw [List.mem_singleton.mp hz])) (fun z => nomatch z)
        exact rep_mv m4 (fun z => z.1.1.elim nPS fun h => (st.someS h).1 rfl) (fun z => z.1.1.elim nPc fun h => (st.someS h).2 rfl) (rep_Sd (fun b hb ne => ⟨⟨.inl hb.1.1, fun z => ne (z ▸ hp0)⟩, fun z => ne (z ▸ hq0)⟩) rvv)
      have e4 := e3.trans e3b
      refine Evl.q_when (b := !ies.isEmpty) (et_tru (Evl.ev_var rfl) (e4 _ _ hia)) (fun hb H4 e4b => ?_) fun _ H4 e4b => ?_
      · obtain ⟨nm, g, d0, vv, rfl, rfl, rfl, hls, rvv⟩ := one (by
          cases h : ies.isEmpty with
          | true => rw [h] at hb; cases hb
          | false => rfl)
        have m0 := Mv.ex st (e4.trans e4b)
        refine ⟨_, rfl, ia, _, rfl, .inl ((e4.trans e4b) _ _ hia), fun lp hlp => ⟨lp, [V.str nm], 0, .str nm, rfl, rfl, Evl.sq_of upd_same, rfl, ?_⟩⟩
        have m1 := m0.tx (Ex.new (o := .lst [V.str nm]) hlp)
        intro p hp
        have hp0 := m1.back hp
        have m2 := m1.tx (Ex.new (o := .dK []) hp)
        refine ⟨_, rfl, fun q hq => ?_⟩
        have hq0 := m2.back hq
        have m3 := m2.tx (Ex.new (o := .dK []) hq)
        have hia3 := m3.fr ia _ (fun z => nPS (z ▸ Pia.1)) (fun z => nPc (z ▸ Pia.1)) hia
        have nqp : q ≠ p := fun z => by rw [z, upd_same] at hq; cases hq
        have hq3 : (upd (upd (upd H4 lp (.lst [V.str nm])) p (.dK [])) q (.dK [])) q = some (.dK []) := upd_same
        have hp3 : (upd (upd (upd H4 lp (.lst [V.str nm])) p (.dK [])) q (.dK [])) p = some (.dK []) := (Ex.new hq) _ _ upd_same
        refine ⟨_, rfl, _, rfl, _, rfl, _, rfl, ia, vv, rfl, .inl ⟨_, Sum.inr nm, .inl hia3, rfl, by rw [vV_cons, if_pos rfl]⟩, ?_⟩
        have nS : ¬ (((PP S ∨ H S = none) ∧ S ≠ p) ∧ S ≠ q) := fun z => z.1.1.elim nPS fun h => (st.someS h).1 rfl
        have nc : ¬ (((PP c ∨ H c = none) ∧ c ≠ p) ∧ c ≠ q) := fun z => z.1.1.elim nPc fun h => (st.someS h).2 rfl
        have m1' : 2 ≤ m + 1 := i2 (fun z => nomatch z)
        refine ⟨_, rfl, way, 2, rfl, rfl, (by show (0 : Int) < 2; decide), _, rfl, S, c, vv, way % 2, sp, (fun b => ((PP b ∨ H b = none) ∧ b ≠ p) ∧ b ≠ q), d0, g, [], rfl, m3.z, rep_mv m3 nS nc (rep_Sd (fun b hb ne => ⟨⟨.inl hb.1.1, fun z => ne (z ▸ hp0)⟩, fun z => ne (z ▸ hq0)⟩) rvv), ls01 hls, (oki.2 _ List.mem_cons_self).2, ⟨Nat.zero_le _, fun q h => nomatch h⟩, spW, nS, nc, fun z => absurd rfl z, by omega, fun H5 v5 d5 f5 i5 m5 r5 l5' o5 oi5 hi5 he5 => ?_⟩
        have he5 := he5 rfl
        subst he5
        have m05 := m3.trans m5
        have hq5 := m5.fr q _ (st.someS hq0).1 (st.someS hq0).2 hq3
        have hp5 := m5.fr p _ (st.someS hp0).1 (st.someS hp0).2 hp3
        refine ⟨hq5, [(Sum.inr nm, v5)], rfl, (by show 1 ≤ 15; decide), ?_⟩
        refine ⟨by rw [upd_ne nqp.symm]; exact hp5, [(Sum.inr "fields", _), (Sum.inr "inner", _)], rfl, (by show 2 ≤ 15; decide), ?_⟩
        rw [merge2 nFI]
        have m6 := m05.mut (o := .dK [((Sum.inr nm : Key), v5)]) hq0
        refine fin (e' := [(nm, d5)]) (i' := [(nm, f5)]) hp0 m6 (by rw [upd_ne nqp.symm]; exact hp5) (old rf hp0 m6) ⟨q, _, rfl, ⟨.inr hq0, nqp⟩, upd_same, (by show 1 ≤ 100000; decide), .cons ⟨rfl, ?_⟩ .nil⟩ (.cons ⟨rfl, ls10 l5'⟩ .nil) okf ⟨(by show 1 ≤ 1; decide), fun z hz => by rw [List.mem_singleton.mp hz]; exact ⟨(oki.2 _ List.mem_cons_self).1, o5⟩⟩ (fun z hz => .inr (by rw [List.mem_singleton.mp hz]; exact List.mem_cons_self)) (fun z => nomatch z)
        exact rep_lock hq5 (fun b z => z.2) (rep_S (fun b hb => hb.elim id fun h => ⟨⟨.inr (m3.back h), fun z => by subst z; exact nomatch (hp3.symm.trans h)⟩, fun z => by subst z; exact nomatch (hq3.symm.trans h)⟩) r5)
      · exact ⟨_, rfl, k H4 _ _ f i (Mv.ex st (e4.trans e4b)) (rep_S (fun b hb => .inl hb) (rep_ex (e4.trans e4b) hv)) hd okf oki okI id⟩
end
end Pk

namespace Pk
open PySem PySem.Spec PyProof.Rows L2 Ssb
open Evl (Ex Ev EvT EvL EvA EvU)
/-! ### a shape with one list changed -/
abbrev Li := Str × Fl × List (Str × Fl)
def nmsOf (q : Li) : List Str := q.1 :: q.2.2.map (·.1)
/-- what may stand for the list q, sp a name that nothing has -/
def Good (sp : Str) (q q' : Li) : Prop := isW q'.1 ∧ okFl q'.2.1 ∧ okI2 q'.2.2 ∧ (∀ x ∈ nmsOf q', x = sp ∨ x ∈ nmsOf q) ∧ (nmsOf q').Nodup
theorem rows_app (s t : Sh) : rowsS (s ++ t) = rowsS s ++ rowsS t := by unfold rowsS; rw [List.flatMap_append]
theorem nms_rows (q : Li) : (rowsOf q).map (·.1) = nmsOf q := rowsOf_names q
theorem okSh_set {s : Sh} (z : okSh s) {sp : Str} (hsp : sp ∉ (rowsS s).map (·.1)) {t : Nat} {q q' : Li} (hq : s[t]? = some q) (g : Good sp q q') : okSh (s.set t q') := by
  have ht : t < s.length := by
    rcases Nat.lt_or_ge t s.length with h' | h'
    · exact h'
    · rw [List.getElem?_eq_none_iff.mpr h'] at hq; cases hq
  refine ⟨by rw [List.length_set]; exact z.1, ?_, fun p hp => ?_⟩
  · have e : rowsS (s.set t q') = rowsS (s.take t) ++ (rowsOf q' ++ rowsS (s.drop (t + 1))) := by
      rw [List.set_eq_take_append_cons_drop, if_pos ht, rows_app]
      rfl
    have n1 := z.2.1
    rw [rows_split hq, List.map_append, List.map_append, nms_rows] at n1 hsp
    rw [e, List.map_append, List.map_append, nms_rows]
    obtain ⟨nA, nB, dAB⟩ := List.nodup_append.mp n1
    obtain ⟨nQ, nD, dQD⟩ := List.nodup_append.mp nB
    have far : ∀ {x : Str}, x ∈ nmsOf q' → x ∉ (rowsS (s.take t)).map (·.1) ∧ x ∉ (rowsS (s.drop (t + 1))).map (·.1) := fun {x} hx => by
      rcases g.2.2.2.1 x hx with rfl | hx
      · exact ⟨fun h => hsp (List.mem_append_left _ h), fun h => hsp (List.mem_append_right _ (List.mem_append_right _ h))⟩
      · exact ⟨fun h => dAB _ h _ (List.mem_append_left _ hx) rfl, fun h => dQD _ hx _ h rfl⟩
    refine List.nodup_append.mpr ⟨nA, List.nodup_append.mpr ⟨g.2.2.2.2, nD, fun a ha b hb e => (far ha).2 (e ▸ hb)⟩, fun a ha b hb e => ?_⟩
    rcases List.mem_append.mp hb with hb | hb
    · exact (far hb).1 (e ▸ ha)
    · exact dAB a ha b (List.mem_append_right _ hb) e
  · rcases List.mem_or_eq_of_mem_set hp with hp | rfl
    · exact z.2.2 p hp
    · exact ⟨g.1, g.2.1, g.2.2.1.1, g.2.2.1.2⟩
theorem okSh_erase {s : Sh} (z : okSh s) (t : Nat) : okSh (s.eraseIdx t) := by
  refine ⟨Nat.le_trans (List.length_eraseIdx_le _ _) z.1, ?_, fun p hp => z.2.2 p (List.mem_of_mem_eraseIdx hp)⟩
  by_cases ht : t < s.length
  · have hq : s[t]? = some (s[t]) := List.getElem?_eq_getElem ht
    have n1 := z.2.1
    rw [rows_split hq, List.map_append, List.map_append] at n1
    rw [List.eraseIdx_eq_take_drop_succ, rows_app, List.map_append]
    obtain ⟨nA, nB, dAB⟩ := List.nodup_append.mp n1
    obtain ⟨_, nD, _⟩ := List.nodup_append.mp nB
    exact List.nodup_append.mpr ⟨nA, nD, fun a ha b hb => dAB a ha b (List.mem_append_right _ hb)⟩
  · rw [List.eraseIdx_of_length_le (by omega)]; exact z.2.1
theorem set_snoc {α : Type} {l : List α} {i t : Nat} {x y : α} (h : l[i]? = some x) : (l.take (i + 1)).set t y = if i = t then l.take i ++ [y] else (l.take i).set t y ++ [x] := by
  have hi : i < l.length := by
    rcases Nat.lt_or_ge i l.length with h' | h'
    · exact h'
    · rw [List.getElem?_eq_none_iff.mpr h'] at h; cases h
  have li : (l.take i).length = i := by rw [List.length_take]; omega
  rw [take_snoc h]
  by_cases c : i = t
  · subst c
    rw [if_pos rfl, List.set_append_right _ _ (by omega), li, Nat.sub_self]
    rfl
  · rw [if_neg c]
    by_cases c2 : t < i
    · rw [List.set_append_left _ _ (by omega)]
    · rw [List.set_append_right _ _ (by omega), li, List.set_eq_of_length_le (l := [x]) (by show 1 ≤ t - i; omega), List.set_eq_of_length_le (l := l.take i) (by omega)]
theorem pair_erase {α β : Type} {F : α → β → Prop} : ∀ {l : List α} {m : List β} (t : Nat), Paired F l m → Paired F (l.eraseIdx t) (m.eraseIdx t)
  | _, _, _, .nil => .nil
  | _, _, 0, .cons h t => t
  | _, _, k + 1, .cons h t => .cons h (pair_erase k t)
end Pk

namespace Pk
open PySem PySem.Spec PyProof.Rows L2 Ssb
open Evl (Ex Ev EvT EvL EvA EvU)
theorem cut_fromA {xs : List V} {i : Nat} : cutV xs (some (i : Int)) none = xs.drop i := by
  unfold cutV
  rw [HT.sIx_none, HT.sIx_nat]
  by_cases h : i ≤ xs.length
  · rw [Nat.min_eq_left h, List.take_of_length_le (by rw [List.length_drop]; omega)]
  · rw [Nat.min_eq_right (by omega), List.drop_of_length_le (Nat.le_refl _), List.drop_of_length_le (by omega)]; simp
theorem nm_own {z : Sh} (h : ((rowsS z).map (·.1)).Nodup) {i t : Nat} {q r : Li} (hq : z[t]? = some q) (hr : z[i]? = some r) (hm : r.1 ∈ nmsOf q) : t = i := by
  rcases List.mem_cons.mp hm with e | hm
  · have nd := sh_nd h
    have h1 : (z.map (·.1))[t]? = some q.1 := by rw [List.getElem?_map, hq]; rfl
    have h2 : (z.map (·.1))[i]? = some q.1 := by rw [List.getElem?_map, hr]; exact congrArg some e
    have lt : t < (z.map (·.1)).length := by
      rcases Nat.lt_or_ge t (z.map (·.1)).length with h' | h'
      · exact h'
      · rw [List.getElem?_eq_none_iff.mpr h'] at h1; cases h1
    exact (List.getElem?_inj lt nd).mp (h1.trans h2.symm)
  · obtain ⟨u, hu, e⟩ := List.mem_map.mp hm
    have r1 := row_in (List.mem_of_getElem? hq) hu
    have r2 := row_out (List.mem_of_getElem? hr)
    have e : u.1 = r.1 := e
    rw [e] at r1
    have := one_val h r1 r2
    cases this
theorem nms_nd {z : Sh} (h : ((rowsS z).map (·.1)).Nodup) {t : Nat} {q : Li} (hq : z[t]? = some q) : (nmsOf q).Nodup := by
  rw [rows_split hq, List.map_append, List.map_append, nms_rows] at h
  exact (List.nodup_append.mp (List.nodup_append.mp h).2.1).1
theorem nms_in {z : Sh} {t : Nat} {q : Li} (hq : z[t]? = some q) {x : Str} (hx : x ∈ nmsOf q) : x ∈ (rowsS z).map (·.1) := by
  rw [rows_split hq, List.map_append, List.map_append, nms_rows]
  exact List.mem_append_right _ (List.mem_append_left _ hx)
section
variable {P : Program} {w : World} {K : PySem.W.Frag} {mg : Str → Option Value} {base : Heap} {C_Shape : Addr}
def spCh : Sp := fun vs H Q _ => ∃ (S c fa : Addr) (v : V) (fl : List Str) (P : Addr → Prop) (d : D) (s : Sh), vs = [.ref S, .ref fa, v] ∧ StAt H S c ∧ H fa = some (.lst (fl.map V.str)) ∧ fl.length ≤ 2 ∧ (∀ x ∈ fl, isW x) ∧ fl.Nodup ∧ Rep H 7 P d v ∧ shD d s ∧ okSh s ∧ ¬ P S ∧ ¬ P c ∧
  ∀ H' q (gl : List Str) d' s' ga v', Mv S c H H' → H q = none → H' q = some (.lst [.ref ga, v']) → H' ga = some (.lst (gl.map V.str)) → gl.length ≤ 2 → (∀ x ∈ gl, isW x) → gl.Nodup → Rep H' 7 (fun b => P b ∨ H b = none) d' v' → shD d' s' → okSh s' → Q (.ref q) H'
theorem ok__law_changed (T : Txt K mg C_Shape) (R : Prg K mg C_Shape) : ∃ f fd, Fn P w K mg base "_law_changed" 17 ["_law_stream_here", "_law_flags", "_law_lists_here"] spCh f fd := by
  obtain ⟨_, _, G__law_draw⟩ := ok__law_draw (P := P) (w := w) (base := base) T R
  obtain ⟨_, _, G__law_names⟩ := ok__law_namesT (P := P) (w := w) (base := base) T R
  obtain ⟨_, _, G__law_about⟩ := ok__law_about (P := P) (w := w) (base := base) T R
  obtain ⟨_, _, G__law_without⟩ := ok__law_without (P := P) (w := w) (base := base) T R
  obtain ⟨_, _, G__law_changed_list⟩ := ok__law_changed_list (P := P) (w := w) (base := base) T R 2
  obtain ⟨f, fd, at_, F, kp⟩ := R._law_changed
  refine ⟨f, fd, F.ok sc__law_changed (fun vs H Q E h => ?_) (fun cdv A outer s H vs Q E hr h => ?_), at_, kp, F.binds (fun _ _ _ _ _ _ us hl => match us, hl with | [_, _, _], _ => rfl)⟩
  · obtain ⟨S, c, fa, v, fl, PP, d, z, rfl, _⟩ := h; rfl
  · obtain ⟨S, c, fa, v, fl, PP, d, z, rfl, st, hfa, f2, fw, fn, hv, hd, hz, nPS, nPc, k⟩ := h
    refine ⟨_, (pss_cons (ps_set (i := 3) sc__law_changed.nd rfl (Or.inl rfl) (pcl G__law_draw hr (pa_cons (pv 0) (pa_cons pe_int pa_nil))))
  (pss_cons (ps_set (i := 4) sc__law_changed.nd rfl (Or.inl rfl) (pe_ix (r := rIxL K) ix_list (pcl G__law_names hr (pa_cons (pv 0) (pa_cons pe_int (pa_cons (pe_op op_cat (pv 1) (pe_callTy (call_listD rfl) (by rfl) T.list (by decide +kernel) (pa_cons (pcl G__law_about hr (pa_cons (pv 2) pa_nil)) pa_nil))) pa_nil)))) pe_int (fun _ _ => rfl)))
  (pss_cons (ps_set (i := 5) sc__law_changed.nd rfl (Or.inl rfl) (pcl G__law_draw hr (pa_cons (pv 0) (pa_cons (pe_callB (call_max2 rfl) (by rfl) T.max (by decide +kernel) (pa_cons pe_int (pa_cons (pe_callB call_lenD (by rfl) T.len (by decide +kernel) (pa_cons (pv 2) pa_nil)) pa_nil))) pa_nil))))
  (pss_cons (ps_if (pt_cmpR op_eq (pv 3) pe_int (nomark _)) (pss_one (ps_ret (pe_lst (pa_cons (pe_slice (r := rSlL K) sl_list (pv 1) (po_some pe_int) po_none) (pa_cons (pv 2) pa_nil))))) pss_nil)
  (pss_cons (ps_if (pt_cmpR op_eq (pv 3) pe_int (nomark _)) (pss_one (ps_ret (pe_lst (pa_cons (pe_op op_cat (pe_slice (r := rSlL K) sl_list (pv 1) (po_some pe_int) po_none) (pe_lst (pa_cons (pv 4) pa_nil))) (pa_cons (pv 2) pa_nil))))) pss_nil)
  (pss_cons (ps_if (pt_cmpR op_eq (pv 3) pe_int (nomark _)) (pss_one (ps_ret (pe_lst (pa_cons (pv 1) (pa_cons (pcl G__law_without hr (pa_cons (pv 2) (pa_cons (pv 5) pa_nil))) pa_nil))))) pss_nil)
  (pss_cons (ps_set (i := 6) sc__law_changed.nd rfl (Or.inl rfl) pe_dnewK)
  (pss_cons (ps_for PassesOwn.never rfl (pi_enum (by rfl) T.enumerate (pa_cons (pe_callTy (call_listD rfl) (by rfl) T.list (by decide +kernel) (pa_cons (pv 2) pa_nil)) pa_nil)) (show PG _ _ (gTup K 2 _) from pg_tup (n := 2) rfl (pgs_cons (pg_name (i := 7) sc__law_changed.nd rfl (Or.inl rfl)) (pgs_cons (pg_name (i := 8) sc__law_changed.nd rfl (Or.inl rfl)) pgs_nil)))
    (pss_one (ps_if (pt_cmpR op_ne (pv 7) (pv 5) (nomark _)) (pss_one (ps_dput (hu_of hr) (pv 6) (pv 8) (pe_dget (hu_of hr) (pv 2) (pv 8) (fun _ _ => rfl)) rfl)) (pss_one (ps_if (pt_cmpR op_eq (pv 3) pe_int (nomark _)) (pss_one (ps_dput (hu_of hr) (pv 6) (pv 4) (pe_dget (hu_of hr) (pv 2) (pv 8) (fun _ _ => rfl)) rfl)) (pss_one (ps_dput (hu_of hr) (pv 6) (pv 8) (pcl G__law_changed_list hr (pa_cons (pv 0) (pa_cons (pe_dget (hu_of hr) (pv 2) (pv 8) (fun _ _ => rfl)) (pa_cons (pe_op op_sub (pv 3) pe_int) (pa_cons (pv 4) pa_nil))))) rfl)))))))
  (pss_one (ps_ret (pe_lst (pa_cons (pv 1) (pa_cons (pv 6) pa_nil))))))))))))), ?_⟩
    have r4 := (okSh_rows hz).1
    obtain ⟨l, rfl, pls⟩ := id hd
    obtain ⟨a, es, rfl, Pa, ha, l5, pr⟩ := id hv
    have lz : l.length = z.length := pair_len pls
    have le : l.length = es.length := pair_len pr
    have ek : es.map (·.1) = (z.map (·.1)).map Sum.inr := by rw [pair_keys pr, pair_names pls]
    have aS : a ≠ S ∧ a ≠ c := ⟨fun e => nPS (e ▸ Pa), fun e => nPc (e ▸ Pa)⟩
    have fS := Mv.strs st hfa
    -- way
    refine ⟨_, rfl, S, c, 9, rfl, st, by decide, by decide, fun H1 way m1 w0 w1 => ?_⟩
    have hfa1 := m1.fr fa _ fS.1 fS.2 hfa
    have hv1 := rep_mv m1 nPS nPc hv
    -- the name that nothing has
    refine ⟨_, rfl, _, rfl, _, rfl, .ref a, 7, PP, _, z, rfl, hv1, hd, hz, fun H2 ab aes e2 hab hab2 aek => ?_⟩
    have m2 := m1.tx e2
    have hfa2 := m2.fr fa _ fS.1 fS.2 hfa
    refine ⟨ab, aes, rfl, .inl hab2, fun lp hlp => ?_⟩
    have e3 : Ex H2 (upd H2 lp (.lst (aes.map fun kv => kV kv.1))) := Ex.new hlp
    have ail : (aes.map fun kv => kV kv.1) = (((rowsS z).map (·.1)).map V.str) := by
      have : (aes.map fun kv => kV kv.1) = (aes.map (·.1)).map kV := by rw [List.map_map]; rfl
      rw [this, aek, List.map_map]; rfl
    have hlp3 : (upd H2 lp (.lst (aes.map fun kv => kV kv.1))) lp = some (.lst (((rowsS z).map (·.1)).map V.str)) := by rw [upd_same, ail]
    generalize (upd H2 lp (.lst (aes.map fun kv => kV kv.1))) = H3 at e3 hlp3 ⊢
    refine ⟨fa, lp, fl.map V.str, _, rfl, rfl, e3 _ _ hfa2, hlp3, by rw [List.length_map, List.length_map, List.length_map]; exact Evl.sz_of (by omega), fun tk htk => ?_⟩
    have m4 := (m2.tx e3).tx (Ex.new (o := .lst (fl.map V.str ++ ((rowsS z).map (·.1)).map V.str)) htk)
    rw [← List.map_append] at m4 ⊢
    refine ⟨S, c, tk, 1, fl ++ (rowsS z).map (·.1), rfl, m4.z, by decide, by decide, upd_same, by rw [List.length_append, List.length_map]; omega, fun H5 q5 ws m5 hq5 hq55 lws wok wnd wnt => ?_⟩
    have m05 := m4.trans m5
    obtain ⟨sp, rfl⟩ : ∃ sp, ws = [sp] := by
      match ws, lws with
      | [x], _ => exact ⟨x, rfl⟩
      | [], h => simp at h
      | _ :: _ :: _, h => simp at h; omega
    have spW := wok sp List.mem_cons_self
    have spN := wnt sp List.mem_cons_self
    have spF : sp ∉ fl := fun h => spN (List.mem_append_left _ h)
    have spR : sp ∉ (rowsS z).map (·.1) := fun h => spN (List.mem_append_right _ h)
    refine ⟨q5, [V.str sp], 0, .str sp, rfl, rfl, Evl.sq_of hq55, rfl, ?_⟩
    -- at
    have ha5 := m05.fr a _ aS.1 aS.2 ha
    refine ⟨_, rfl, _, rfl, a, es, rfl, ha5, 1, _, rfl, S, c, _, rfl, m05.z, ?_, ?_, fun H6 at6 m6 a0 at1 => ?_⟩
    · split <;> omega
    · have := hz.1; split <;> omega
    have m06 := m05.trans m6
    have hfa6 := m06.fr fa _ fS.1 fS.2 hfa
    have ha6 := m06.fr a _ aS.1 aS.2 ha
    have rep6 : ∀ {H' : Hp}, Mv S c H H' → Rep H' 7 (fun b => PP b ∨ H b = none) (.dic l) (.ref a) := fun mv => rep_S (fun b hb => .inl hb) (rep_mv mv nPS nPc hv)
    -- a flag less
    refine Evl.q_when (b := decide (V.int way = .int 0)) (Evl.et_test (Evl.ev_op (Evl.ev_var rfl) Evl.ev_c (Evl.rv_eq rfl))) (fun hb H7 e7 => ?_) fun _ H7 e7 => ?_
    · have m7 := m06.tx e7
      refine ⟨_, rfl, _, rfl, fa, fl.map V.str, rfl, Evl.sq_of (e7 _ _ hfa6), fun ga hga => ⟨_, rfl, (by show 2 ≤ sizeLine; decide), fun p hp => ?_⟩⟩
      have m8 := (m7.tx (Ex.new (o := .lst (cutV (fl.map V.str) (some 1) none)) hga)).tx (Ex.new (o := .lst [.ref ga, .ref a]) hp)
      have hp0 := (m7.tx (Ex.new (o := .lst (cutV (fl.map V.str) (some 1) none)) hga)).back hp
      refine k _ p (fl.drop 1) _ z ga (.ref a) m8 hp0 upd_same ?_ (by rw [List.length_drop]; omega) (fun x hx => fw x (List.mem_of_mem_drop hx)) ((List.drop_sublist 1 fl).nodup fn) (rep6 m8) hd hz
      rw [(Ex.new (o := .lst [.ref ga, .ref a]) hp) _ _ upd_same]
      have := cut_fromA (xs := fl.map V.str) (i := 1)
      rw [List.map_drop]
      exact congrArg (fun x => some (HO.lst x)) this
    -- another flag for the first one
    refine Evl.q_when (b := decide (V.int way = .int 1)) (Evl.et_test (Evl.ev_op (Evl.ev_var rfl) Evl.ev_c (Evl.rv_eq rfl))) (fun hb H8 e8 => ?_) fun _ H8 e8 => ?_
    · have m7 := m06.tx (e7.trans e8)
      refine ⟨_, rfl, _, rfl, fa, fl.map V.str, rfl, Evl.sq_of ((e7.trans e8) _ _ hfa6), fun g0 hg0 => ⟨_, rfl, (by show 1 ≤ sizeLine; decide), fun b0 hb0 => ⟨g0, b0, (fl.drop 1).map V.str, [.str sp], rfl, rfl, ?_, upd_same, ?_, fun ga hga => ⟨_, rfl, (by show 2 ≤ sizeLine; decide), fun p hp => ?_⟩⟩⟩⟩
      · rw [(Ex.new (o := .lst [V.str sp]) hb0) _ _ upd_same]
        have := cut_fromA (xs := fl.map V.str) (i := 1)
        rw [List.map_drop]
        exact congrArg (fun x => some (HO.lst x)) this
      · rw [List.length_map, List.length_drop]; exact Evl.sz_of (by show fl.length - 1 + 1 ≤ 100000; omega)
      · have m8 := ((m7.tx (Ex.new (o := .lst (cutV (fl.map V.str) (some 1) none)) hg0)).tx (Ex.new (o := .lst [V.str sp]) hb0)).tx (Ex.new (o := .lst ((fl.drop 1).map V.str ++ [.str sp])) hga)
        have m9 := m8.tx (Ex.new (o := .lst [.ref ga, .ref a]) hp)
        refine k _ p (fl.drop 1 ++ [sp]) _ z ga (.ref a) m9 (m8.back hp) upd_same ?_ ?_ (fun x hx => ?_) ?_ (rep6 m9) hd hz
        · rw [(Ex.new (o := .lst [.ref ga, .ref a]) hp) _ _ upd_same, List.map_append]; rfl
        · rw [List.length_append, List.length_drop]; show fl.length - 1 + 1 ≤ 2; omega
        · rcases List.mem_append.mp hx with hx | hx
          · exact fw x (List.mem_of_mem_drop hx)
          · rw [List.mem_singleton.mp hx]; exact spW
        · refine List.nodup_append.mpr ⟨(List.drop_sublist 1 fl).nodup fn, by simp, fun x hx y hy e => ?_⟩
          rw [List.mem_singleton.mp hy] at e
          exact spF (e ▸ List.mem_of_mem_drop hx)
    -- a list less
    have e68 := e7.trans e8
    refine Evl.q_when (b := decide (V.int way = .int 2)) (Evl.et_test (Evl.ev_op (Evl.ev_var rfl) Evl.ev_c (Evl.rv_eq rfl))) (fun hb H9 e9 => ?_) fun _ H9 e9 => ?_
    · have m7 := m06.tx (e68.trans e9)
      refine ⟨_, rfl, _, rfl, _, rfl, .ref a, at6.toNat, 7, _, l, (show [V.ref a, V.int at6] = [V.ref a, V.int (at6.toNat : Int)] by rw [Int.toNat_of_nonneg a0]), rep6 m7, by rw [pair_names pls]; exact sh_nd hz.2.1, by have := hz.1; omega, fun Ha q e10 hq => ⟨(by show 2 ≤ sizeLine; decide), fun p hp => ?_⟩⟩
      have m8 := m7.tx e10
      have m9 := m8.tx (Ex.new (o := .lst [.ref fa, .ref q]) hp)
      exact k _ p fl _ (z.eraseIdx at6.toNat) fa (.ref q) m9 (m8.back hp) upd_same (m9.fr fa _ fS.1 fS.2 hfa) f2 fw fn (rep_ex (Ex.new hp) (rep_S (fun b hb => hb.elim id fun h => .inr (m7.back h)) hq)) ⟨_, rfl, pair_erase _ pls⟩ (okSh_erase hz _)
    have m9 := m06.tx (e68.trans e9)
    intro dd h1
    have m10 := m9.tx (Ex.new (o := .dK []) h1)
    have ddS := m9.z.someS h1
    have h10 := m9.back h1
    have ha10 := m10.fr a _ aS.1 aS.2 ha
    obtain ⟨t, rfl⟩ : ∃ t : Nat, at6 = t := ⟨at6.toNat, by omega⟩
    have sN := sh_nd hz.2.1
    refine q_enumD (a := a) (es := es) (Evl.ev_var rfl) ha10 (fun lp i σ' H' => ∃ (es' : List (Key × V)) (l' : List (Str × D)) (q' : Li) (o7 o8 : Option V), σ' = [some (.ref S), some (.ref fa), some (.ref a), some (.int way), some (.str sp), some (.int t), some (.ref dd), o7, o8] ∧ Mv S c H H' ∧ (lp ≠ dd ∧ lp ≠ S ∧ lp ≠ c) ∧ H' lp = some (.lst (es.map fun kv => kV kv.1)) ∧ H' dd = some (.dK es') ∧
        Paired (fun (x : Str × D) (e : Key × V) => e.1 = Sum.inr x.1 ∧ Rep H' 6 (fun b => (PP b ∨ H b = none) ∧ b ≠ dd) x.2 e.2) l' es' ∧ Paired (fun (p : Str × D) (q : Li) => p.1 = q.1 ∧ ls1 p.2 q.2.1 q.2.2) l' ((z.take i).set t q') ∧ (t < i → ∀ q, z[t]? = some q → Good sp q q'))
      (fun lp H11 e11 hlp hlp1 => ⟨[], [], (sp, [], []), _, _, rfl, m10.tx e11, ⟨(fun e => by rw [e, upd_same] at hlp; cases hlp), m10.z.someS hlp⟩, hlp1, e11 _ _ upd_same, .nil, by simp; exact .nil, fun h => absurd h (Nat.not_lt_zero _)⟩) (fun lp i σ' H' ⟨_, _, _, _, _, _, _, _, h, _⟩ => h) (fun lp i σ' H' kv hkv pv H12 e12 => ?_) fun lp σ' H' pv => ?_
    · obtain ⟨es', l', q', o7, o8, rfl, mH, nlp, hlp, h1', pes, pl', gd⟩ := pv
      obtain ⟨kk, vj⟩ := kv
      obtain ⟨⟨nm, dj⟩, hdj, hk, hrj⟩ := pair_back pr hkv
      have hk : kk = Sum.inr nm := hk
      subst hk
      obtain ⟨q, hq, enm, hls⟩ := pair_at pls hdj
      have enm : nm = q.1 := enm
      subst enm
      have ekeys := pair_keys pr
      have hvj : valV es (Sum.inr q.1 : Key) = some vj := valV_at (by rw [ek]; exact inr_nd sN) hkv
      have le' : es'.length ≤ 2 := by
        rw [← pair_len pes, pair_len pl', List.length_set, List.length_take]
        have := hz.1; omega
      have keys' : es'.map (·.1) = (((z.take i).set t q').map (·.1)).map Sum.inr := by rw [pair_keys pes, pair_names pl']
      have hqm := List.mem_of_getElem? hq
      have oq := hz.2.2 q hqm
      have repv : ∀ {H' : Hp}, Mv S c H H' → Rep H' 6 (fun b => (PP b ∨ H b = none) ∧ b ≠ dd) dj vj := fun mv => rep_mv mv (fun z => z.1.elim nPS fun h => (st.someS h).1 rfl) (fun z => z.1.elim nPc fun h => (st.someS h).2 rfl) (rep_Sd (fun b hb ne => ⟨.inl hb.1, fun z => ne (z ▸ h10)⟩) hrj)
      have up : ∀ {H1 H2 : Hp} {es2 : List (Key × V)} {d : D} {v : V}, Mv S c H1 H2 → H2 dd = some (.dK es') → H1 dd ≠ none → (∀ b, H1 b = none → H b = none) → Rep H1 6 (fun b => (PP b ∨ H b = none) ∧ b ≠ dd) d v → Rep (upd H2 dd (.dK es2)) 6 (fun b => (PP b ∨ H b = none) ∧ b ≠ dd) d v := fun mv hd2 _ _ h => rep_lock hd2 (fun b z => z.2) (rep_mv mv (fun z => z.1.elim nPS fun h => (st.someS h).1 rfl) (fun z => z.1.elim nPc fun h => (st.someS h).2 rfl) h)
      have nn : H' dd ≠ none := by rw [h1']; exact fun h => nomatch h
      refine Evl.s_if (b := !decide ((i : Int) = t)) (Evl.et_is (Evl.et_test (Evl.ev_op (Evl.ev_var rfl) (Evl.ev_var rfl) (Evl.rv_ne rfl))) ?_) (fun hb H13 e13 => ?_) (fun hb H13 e13 => ?_)
      · simp [eqV]
      · have nit : i ≠ t := fun z => by rw [z] at hb; simp at hb
        have m13 := (mH.tx e12).tx e13
        have h13 := e13 _ _ (e12 _ _ h1')
        refine ⟨_, rfl, _, rfl, a, vj, rfl, .inl ⟨es, Sum.inr q.1, .inl (m13.fr a _ aS.1 aS.2 ha), rfl, hvj.symm⟩, _, rfl, _, rfl, dd, _, rfl, .inl ⟨es', Sum.inr q.1, h13, rfl, Evl.sz_lt (by omega), rfl⟩, ?_⟩
        have nv : valV es' (Sum.inr q.1 : Key) = none := vV_no (by
          rw [keys']
          refine inr_not fun hm => ?_
          obtain ⟨u, hu, e⟩ := List.mem_map.mp hm
          have e : u.1 = q.1 := e
          by_cases ti : t < i
          · rcases List.mem_or_eq_of_mem_set hu with hu | rfl
            · exact not_take sN (show (z.map (·.1))[i]? = some q.1 by rw [List.getElem?_map, hq]; rfl) (by rw [← List.map_take]; exact List.mem_map.mpr ⟨u, hu, e⟩)
            · have lt : t < z.length := by
                have : i < z.length := by
                  rcases Nat.lt_or_ge i z.length with h' | h'
                  · exact h'
                  · rw [List.getElem?_eq_none_iff.mpr h'] at hq; cases hq
                omega
              have hqt : z[t]? = some (z[t]) := List.getElem?_eq_getElem lt
              rcases (gd ti _ hqt).2.2.2.1 u.1 List.mem_cons_self with h | h
              · rw [e] at h
                exact spR (h ▸ nms_in hq List.mem_cons_self)
              · rw [e] at h
                exact nit (nm_own hz.2.1 hqt hq h).symm
          · rw [List.set_eq_of_length_le (by rw [List.length_take]; omega)] at hu
            exact not_take sN (show (z.map (·.1))[i]? = some q.1 by rw [List.getElem?_map, hq]; rfl) (by rw [← List.map_take]; exact List.mem_map.mpr ⟨u, hu, e⟩))
        refine ⟨es' ++ [(Sum.inr q.1, vj)], l' ++ [(q.1, dj)], q', _, _, rfl, m13.mut h10, nlp, by rw [upd_ne nlp.1]; exact e13 _ _ (e12 _ _ hlp), by rw [upd_same, putK_new _ nv], pair_snoc (pair_imp pes fun a b h => ⟨h.1, rep_lock h13 (fun b z => z.2) (rep_ex (e12.trans e13) h.2)⟩) ⟨rfl, rep_lock h13 (fun b z => z.2) (repv m13)⟩, ?_, fun ti => gd (by omega)⟩
        rw [set_snoc hq, if_neg nit]
        exact pair_snoc pl' ⟨rfl, hls⟩
      · have eit : i = t := by simp at hb; omega
        subst eit
        have m13 := (mH.tx e12).tx e13
        have h13 := e13 _ _ (e12 _ _ h1')
        have lit : (z.take i).length ≤ i := by rw [List.length_take]; omega
        rw [List.set_eq_of_length_le lit] at pl' keys'
        refine Evl.s_if (b := decide (V.int way = .int 3)) (Evl.et_test (Evl.ev_op (Evl.ev_var rfl) Evl.ev_c (Evl.rv_eq rfl))) (fun hb3 H14 e14 => ?_) (fun hb3 H14 e14 => ?_)
        · have m14 := m13.tx e14
          have h14 := e14 _ _ h13
          refine ⟨_, rfl, _, rfl, a, vj, rfl, .inl ⟨es, Sum.inr q.1, .inl (m14.fr a _ aS.1 aS.2 ha), rfl, hvj.symm⟩, _, rfl, _, rfl, dd, _, rfl, .inl ⟨es', Sum.inr sp, h14, rfl, Evl.sz_lt (by omega), rfl⟩, ?_⟩
          have nv : valV es' (Sum.inr sp : Key) = none := vV_no (by
            rw [keys']
            refine inr_not fun hm => ?_
            obtain ⟨u, hu, e⟩ := List.mem_map.mp hm
            have e : u.1 = sp := e
            exact spR (e ▸ List.mem_map.mpr ⟨_, row_out (List.mem_of_mem_take hu), rfl⟩))
          refine ⟨es' ++ [(Sum.inr sp, vj)], l' ++ [(sp, dj)], (sp, q.2), _, _, rfl, m14.mut h10, nlp, by rw [upd_ne nlp.1]; exact e14 _ _ (e13 _ _ (e12 _ _ hlp)), by rw [upd_same, putK_new _ nv], pair_snoc (pair_imp pes fun a b h => ⟨h.1, rep_lock h14 (fun b z => z.2) (rep_ex ((e12.trans e13).trans e14) h.2)⟩) ⟨rfl, rep_lock h14 (fun b z => z.2) (repv m14)⟩, ?_, fun _ q2 hq2 => ?_⟩
          · rw [set_snoc hq, if_pos rfl]
            exact pair_snoc pl' ⟨rfl, hls⟩
          · rw [hq] at hq2
            cases hq2
            refine ⟨spW, oq.2.1, ⟨oq.2.2.1, oq.2.2.2⟩, fun x hx => ?_, ?_⟩
            · rcases List.mem_cons.mp hx with e | hx
              · exact .inl e
              · exact .inr (List.mem_cons_of_mem _ hx)
            · exact List.nodup_cons.mpr ⟨fun h => spR (nms_in hq (List.mem_cons_of_mem _ h)), (List.nodup_cons.mp (nms_nd hz.2.1 hq)).2⟩
        · have m14 := m13.tx e14
          have h14 := e14 _ _ h13
          refine ⟨_, rfl, _, rfl, _, rfl, a, vj, rfl, .inl ⟨es, Sum.inr q.1, .inl (m14.fr a _ aS.1 aS.2 ha), rfl, hvj.symm⟩, _, rfl, way, 4, rfl, rfl, _, rfl, S, c, vj, way - 4, sp, _, dj, q.2.1, q.2.2, rfl, m14.z, repv m14, hls, oq.2.1, ⟨oq.2.2.1, oq.2.2.2⟩, spW, (fun z => z.1.elim nPS fun h => (st.someS h).1 rfl), (fun z => z.1.elim nPc fun h => (st.someS h).2 rfl), fun _ => by decide, by decide, fun H15 v5 d5 f5 i5 m15 r5 l5' o5 oi5 hi5 _ => ?_⟩
          have m05' := m14.trans m15
          have h15 := m15.fr dd _ ddS.1 ddS.2 h14
          have hlp15 := m15.fr lp _ nlp.2.1 nlp.2.2 (e14 _ _ (e13 _ _ (e12 _ _ hlp)))
          refine ⟨_, rfl, _, rfl, dd, _, rfl, .inl ⟨es', Sum.inr q.1, h15, rfl, Evl.sz_lt (by omega), rfl⟩, ?_⟩
          have nv : valV es' (Sum.inr q.1 : Key) = none := vV_no (by
            rw [keys']
            refine inr_not fun hm => ?_
            exact not_take sN (show (z.map (·.1))[i]? = some q.1 by rw [List.getElem?_map, hq]; rfl) (by rw [← List.map_take]; exact hm))
          have m1415 := ((Mv.ex mH.z (e12.trans e13)).tx e14).trans m15
          refine ⟨es' ++ [(Sum.inr q.1, v5)], l' ++ [(q.1, d5)], (q.1, f5, i5), _, _, rfl, m05'.mut h10, nlp, by rw [upd_ne nlp.1]; exact hlp15, by rw [upd_same, putK_new _ nv], pair_snoc (pair_imp pes fun a b h => ⟨h.1, up m1415 h15 nn (fun b => mH.back) h.2⟩) ⟨rfl, rep_lock h15 (fun b z => z.2) (rep_S (fun b hb => hb.elim id fun h => ⟨.inr (m14.back h), fun z => by subst z; exact nomatch (h14.symm.trans h)⟩) r5)⟩, ?_, fun _ q2 hq2 => ?_⟩
          · rw [set_snoc hq, if_pos rfl]
            exact pair_snoc pl' ⟨rfl, l5'⟩
          · rw [hq] at hq2
            cases hq2
            have nq := List.nodup_cons.mp (nms_nd hz.2.1 hq)
            refine ⟨oq.1, o5, oi5, fun x hx => ?_, List.nodup_cons.mpr ⟨fun h => ?_, nd_one oi5.1⟩⟩
            · rcases List.mem_cons.mp hx with e | hx
              · exact .inr (by rw [e]; exact List.mem_cons_self)
              · obtain ⟨u, hu, e⟩ := List.mem_map.mp hx
                have e : u.1 = x := e
                rcases hi5 u hu with h | h
                · exact .inl (e ▸ h)
                · exact .inr (List.mem_cons_of_mem _ (e ▸ h))
            · obtain ⟨u, hu, e⟩ := List.mem_map.mp h
              have e : u.1 = q.1 := e
              rcases hi5 u hu with h | h
              · exact spR (h ▸ e ▸ nms_in hq List.mem_cons_self)
              · exact nq.1 (e ▸ h)
    · obtain ⟨es', l', q', o7, o8, rfl, mH, nlp, hlp, h1', pes, pl', gd⟩ := pv
      rw [← le, lz, List.take_of_length_le (Nat.le_refl _)] at pl'
      refine ⟨_, rfl, _, rfl, (by show 2 ≤ sizeLine; decide), fun p hp => ?_⟩
      have mp := mH.tx (Ex.new (o := .lst [.ref fa, .ref dd]) hp)
      refine k _ p fl (.dic l') (z.set t q') fa (.ref dd) mp (mH.back hp) upd_same (mp.fr fa _ fS.1 fS.2 hfa) f2 fw fn (rep_ex (Ex.new hp) ⟨dd, es', rfl, .inr h10, h1', ?_, pes⟩) ⟨l', rfl, pl'⟩ ?_
      · rw [pair_len pl', List.length_set]; have := hz.1; omega
      · cases hq : z[t]? with
        | none => rw [List.set_eq_of_length_le (List.getElem?_eq_none_iff.mp hq)]; exact hz
        | some q =>
          have lt : t < es.length := by
            rw [← le, lz]
            rcases Nat.lt_or_ge t z.length with h' | h'
            · exact h'
            · rw [List.getElem?_eq_none_iff.mpr h'] at hq; cases hq
          exact okSh_set hz spR hq (gd lt q hq)
end
end Pk

namespace Pk
open PySem PySem.Spec PyProof.Rows L2 Ssb
open Evl (Ex Ev EvT EvL EvA EvU)
/-! ### all dicts turned about -/
theorem turn_str {n : Nat} (ws : List Str) : turn n (.tup (ws.map .str)) = .tup (ws.map .str) := by cases n <;> rfl
theorem turn_fl {n : Nat} (f : Fl) : turn (n + 1) (flD f) = flD f.reverse := by
  show D.dic (((f.map fun p => (p.1, D.tup (p.2.map D.str))).map fun p => (p.1, turn n p.2)).reverse) = D.dic (f.reverse.map fun p => (p.1, D.tup (p.2.map D.str)))
  rw [List.map_map, List.map_reverse]
  refine congrArg (fun x => D.dic (List.reverse x)) (List.map_congr_left fun p _ => ?_)
  show (p.1, turn n (D.tup (p.2.map D.str))) = _
  rw [turn_str]
theorem pair_rev {α β : Type} {F : α → β → Prop} {l : List α} {m : List β} (h : Paired F l m) : Paired F l.reverse m.reverse := by
  induction h with
  | nil => exact .nil
  | cons h t ih => rw [List.reverse_cons, List.reverse_cons]; exact pair_snoc ih h
theorem pair_map2 {α β γ δ : Type} {F : α → β → Prop} {G : γ → δ → Prop} {f : α → γ} {g : β → δ} (k : ∀ a b, F a b → G (f a) (g b)) {l : List α} {m : List β} (h : Paired F l m) : Paired G (l.map f) (m.map g) := by
  induction h with
  | nil => exact .nil
  | cons h t ih => exact .cons (k _ _ h) ih
theorem lk_rev2 {l : List (Str × D)} {x y : D} {n : Nat} (h2 : l.length = 2) (hf : l.lookup ("fields" : Str) = some x) (hi : l.lookup ("inner" : Str) = some y) :
    ((l.map fun p => (p.1, turn n p.2)).reverse).lookup ("fields" : Str) = some (turn n x) ∧ ((l.map fun p => (p.1, turn n p.2)).reverse).lookup ("inner" : Str) = some (turn n y) := by
  have nIF : ¬ (("inner" : Str) = "fields") := fun e => nFI e.symm
  rcases two_cases nFI h2 hf hi with rfl | rfl <;> (constructor <;> simp [lk_cons, nFI, nIF])
theorem turn_ls0 {n : Nat} {d : D} {f : Fl} (h : ls0 d f) : ls0 (turn (n + 2) d) f.reverse := by
  obtain ⟨l, rfl, h2, hf, hi⟩ := h
  obtain ⟨a, b⟩ := lk_rev2 (n := n + 1) h2 hf hi
  exact ⟨_, rfl, by rw [List.length_reverse, List.length_map]; exact h2, by rw [a, turn_fl], by rw [b]; rfl⟩
def trI (i : List (Str × Fl)) : List (Str × Fl) := (i.map fun q => (q.1, q.2.reverse)).reverse
def trL (q : Li) : Li := (q.1, q.2.1.reverse, trI q.2.2)
def trS (s : Sh) : Sh := (s.map trL).reverse
theorem turn_ls1 {n : Nat} {d : D} {f : Fl} {i : List (Str × Fl)} (h : ls1 d f i) : ls1 (turn (n + 4) d) f.reverse (trI i) := by
  obtain ⟨l, e, rfl, h2, hf, hi, pr⟩ := h
  obtain ⟨a, b⟩ := lk_rev2 (n := n + 3) h2 hf hi
  refine ⟨_, (e.map fun p => (p.1, turn (n + 2) p.2)).reverse, rfl, by rw [List.length_reverse, List.length_map]; exact h2, by rw [a, turn_fl], by rw [b]; rfl, ?_⟩
  exact pair_rev (pair_map2 (fun a b h => ⟨h.1, turn_ls0 h.2⟩) pr)
theorem turn_sh {n : Nat} {d : D} {s : Sh} (h : shD d s) : shD (turn (n + 5) d) (trS s) := by
  obtain ⟨l, rfl, pr⟩ := h
  exact ⟨_, rfl, pair_rev (pair_map2 (fun a b h => ⟨h.1, turn_ls1 h.2⟩) pr)⟩
theorem okFl_tr {f : Fl} (h : okFl f) : okFl f.reverse :=
  ⟨by rw [List.length_reverse]; exact h.1, by rw [List.map_reverse]; exact (List.reverse_perm _).nodup_iff.mpr h.2.1, fun p hp => h.2.2 p (List.mem_reverse.mp hp)⟩
theorem trI_names {i : List (Str × Fl)} (h : i.length ≤ 1) : (trI i).map (·.1) = i.map (·.1) := by
  match i, h with
  | [], _ => rfl
  | [x], _ => rfl
theorem trL_names {q : Li} (h : q.2.2.length ≤ 1) : (rowsOf (trL q)).map (·.1) = (rowsOf q).map (·.1) := by
  rw [nms_rows, nms_rows]
  show q.1 :: (trI q.2.2).map (·.1) = q.1 :: q.2.2.map (·.1)
  rw [trI_names h]
theorem okSh_tr {s : Sh} (z : okSh s) : okSh (trS s) := by
  refine ⟨by unfold trS; rw [List.length_reverse, List.length_map]; exact z.1, ?_, fun p hp => ?_⟩
  · have h2 := z.1
    have n1 := z.2.1
    have oi := z.2.2
    match s, h2 with
    | [], _ => exact List.nodup_nil
    | [a], _ =>
      have e1 : rowsS (trS [a]) = rowsOf (trL a) ++ rowsS [] := rfl
      have e2 : rowsS [a] = rowsOf a ++ rowsS [] := rfl
      rw [e1, List.map_append, trL_names (oi a List.mem_cons_self).2.2.1, ← List.map_append, ← e2]
      exact n1
    | [a, b], _ =>
      have e1 : rowsS (trS [a, b]) = rowsOf (trL b) ++ (rowsOf (trL a) ++ []) := rfl
      have e2 : rowsS [a, b] = rowsOf a ++ (rowsOf b ++ []) := rfl
      rw [e2, List.append_nil, List.map_append] at n1
      rw [e1, List.append_nil, List.map_append, trL_names (oi a List.mem_cons_self).2.2.1, trL_names (oi b (List.mem_cons_of_mem _ List.mem_cons_self)).2.2.1]
      exact List.perm_append_comm.nodup_iff.mpr n1
  · obtain ⟨q, hq, rfl⟩ := List.mem_map.mp (List.mem_reverse.mp hp)
    have o := z.2.2 q hq
    refine ⟨o.1, okFl_tr o.2.1, by show (trI q.2.2).length ≤ 1; unfold trI; rw [List.length_reverse, List.length_map]; exact o.2.2.1, fun r hr => ?_⟩
    obtain ⟨u, hu, rfl⟩ := List.mem_map.mp (List.mem_reverse.mp hr)
    exact ⟨(o.2.2.2 u hu).1, okFl_tr (o.2.2.2 u hu).2⟩
/-- a shape may be turned: no lists, tuples of texts alone -/
theorem plT_fl {n : Nat} {f : Fl} (h : okFl f) : plT n (flD f) := by
  cases n with
  | zero => trivial
  | succ n =>
    refine ⟨by rw [List.map_map]; exact h.2.1, fun p hp => ?_⟩
    obtain ⟨q, _, rfl⟩ := List.mem_map.mp hp
    cases n with
    | zero => trivial
    | succ n => exact ⟨q.2, rfl⟩
theorem plT_nil {n : Nat} : plT n (.dic []) := by
  cases n with
  | zero => trivial
  | succ n => exact ⟨List.nodup_nil, fun p h => nomatch h⟩
theorem plT_two {n : Nat} {l : List (Str × D)} {x y : D} (h2 : l.length = 2) (hf : l.lookup ("fields" : Str) = some x) (hi : l.lookup ("inner" : Str) = some y) (hx : ∀ n, plT n x) (hy : ∀ n, plT n y) : plT n (.dic l) := by
  cases n with
  | zero => trivial
  | succ n =>
    rcases two_cases nFI h2 hf hi with rfl | rfl
    · exact ⟨(by show (((["fields", "inner"] : List Str))).Nodup; decide +kernel), fun p hp => by
        rcases List.mem_cons.mp hp with rfl | hp
        · exact hx n
        · rw [List.mem_singleton.mp hp]; exact hy n⟩
    · exact ⟨(by show (((["inner", "fields"] : List Str))).Nodup; decide +kernel), fun p hp => by
        rcases List.mem_cons.mp hp with rfl | hp
        · exact hy n
        · rw [List.mem_singleton.mp hp]; exact hx n⟩
theorem plT_sh {n : Nat} {d : D} {s : Sh} (h : shD d s) (z : okSh s) : plT n d := by
  obtain ⟨l, rfl, pr⟩ := h
  cases n with
  | zero => trivial
  | succ n =>
    refine ⟨by rw [pair_names pr]; exact sh_nd z.2.1, fun p hp => ?_⟩
    obtain ⟨q, hq, _, l', e, ed, h2, hf, hi, pe⟩ := pair_mem pr p hp
    rw [ed]
    have o := z.2.2 q hq
    refine plT_two h2 hf hi (fun n => plT_fl o.2.1) fun n => ?_
    cases n with
    | zero => trivial
    | succ n =>
      refine ⟨by rw [pair_names pe]; exact nd_one o.2.2.1, fun u hu => ?_⟩
      obtain ⟨v, hv, _, l3, e3, h3, hf3, hi3⟩ := pair_mem pe u hu
      rw [e3]
      exact plT_two h3 hf3 hi3 (fun n => plT_fl (o.2.2.2 v hv).2) fun n => plT_nil
end Pk

namespace Pk
open PySem PySem.Spec PyProof.Rows L2 Ssb
open Evl (Ex Ev EvT EvL EvA EvU)
/-! ### the law -/
def rEqX (K : PySem.W.Frag) (C : Addr) : R2 := fun x y H Q => rEqU K x y H Q ∨ rOwnB K C (EqR K C) id x y H Q
theorem op_eqX {X : Cx} {f : Addr} {fd : FuncData} {ps : List Str} {C : Addr} {n j : Nat} (hr : Room j X.A) (hu : X.A.units + 64 < cLine) (G : FnOk X.prog X.w X.K X.mg X.base CX0 n f fd ps (spB2 (EqR X.K C))) (hs : EqFacts X.K C f) (hb : Binds X.K fd ps []) (hj : n ≤ j) : OpR X (compareOp .Eq) (rEqX X.K C) :=
  fun pins s σ H x y v u Q I rx ry h => h.elim (op_eqU hu pins s σ H x y v u Q I rx ry) (op_ownEq (hr.mono hj) G hs hb L2.pass0 pins s σ H x y v u Q I rx ry)
theorem op_neX {X : Cx} {f : Addr} {fd : FuncData} {ps : List Str} {C : Addr} {n j : Nat} (hr : Room j X.A) (G : FnOk X.prog X.w X.K X.mg X.base CX0 n f fd ps (spB2 (EqR X.K C))) (hs : EqFacts X.K C f) (hn : NeFacts X.K C) (hb : Binds X.K fd ps []) (hj : n + 1 ≤ j) : OpR X (compareOp .NotEq) (rOwnB X.K C (EqR X.K C) not) :=
  op_ownNe (hr.mono hj) G hs hn hb L2.pass0
theorem gname_go {i : Nat} {v : V} {σ : L2.St} {H : Hp} {k : L2.St → Hp → Prop} (h : k (σ.set i (some v)) H) : gName i v σ H k := h
/-- the second description -/
def Oth (H : Hp) (o : Addr) (fl : List Str) (d : D) (z : Sh) : Prop := ∃ (fB : Addr) (vB : V) (PB : Addr → Prop), H o = some (.lst [.ref fB, vB]) ∧ H fB = some (.lst (fl.map V.str)) ∧ fl.length ≤ 2 ∧ (∀ x ∈ fl, isW x) ∧ fl.Nodup ∧ Rep H 7 PB d vB ∧ shD d z ∧ okSh z
theorem Oth.ex {H H' : Hp} {o : Addr} {fl : List Str} {d : D} {z : Sh} (e : Ex H H') (h : Oth H o fl d z) : Oth H' o fl d z := by
  obtain ⟨fB, vB, PB, h1, h2, h3, h4, h5, h6, h7, h8⟩ := h
  exact ⟨fB, vB, PB, e _ _ h1, e _ _ h2, h3, h4, h5, rep_ex e h6, h7, h8⟩
section
variable {K : PySem.W.Frag} {σ : L2.St} {H : Hp} {D : Ends} {tu tz : TS}
theorem el_sorted {te : L2.TE} {a : Addr} {fl : List Str} (h : Ev te σ H (.ref a)) (ha : H a = some (.lst (fl.map V.str))) (h2 : fl.length ≤ 2) : EvL (tCB (rSortedS K) (tCons te tNil)) σ H ((srt fl).map V.str) := fun H1 e Q q =>
  h H1 e _ fun H2 e2 => ⟨a, fl, rfl, Evl.sq_of ((e.trans e2) _ _ ha), by omega, fun ys p perm so hp => q p _ (Evl.fresh_back e2 hp) (e2.trans (Ex.new hp)) (by rw [upd_same, srt_eq h2 perm so])⟩
theorem q_forNT {xs : List V} {tl : L2.TE} {j : Nat} (h : EvU tl σ H xs) (Pv : Addr → Nat → L2.St → Hp → Prop) (h0 : ∀ p H1, Ex H H1 → H1 p = some (.tup xs) → Pv p 0 σ H1) (hl : ∀ p i σ' H', i ≤ xs.length → Pv p i σ' H' → SqT K H' p xs)
    (hs : ∀ p i x σ' H', xs[i]? = some x → Pv p i σ' H' → tu { D with nx := Pv p (i + 1), ct := Pv p (i + 1), bk := tz D } (σ'.set j (some x)) H') (hd : ∀ p σ' H', Pv p xs.length σ' H' → tz D σ' H') : tSeq (tFor (iTup K tl) (gName j) tu) tz D σ H :=
  h H (Ex.refl H) _ fun p H1 hp e h1 => ⟨p, rfl, ⟨xs, Evl.st_of h1⟩, for_tup (Pv p) (h0 p H1 e h1) (hl p) (hs p) (hd p)⟩
end
theorem own_shape {K : PySem.W.Frag} {mg : Str → Option Value} {C : Addr} (T : Txt K mg C) {g : Bool → Bool} {H : Hp} {p p2 : Addr} {fl fl2 : List Str} {s s2 : Sh} {S S2 : Addr → Prop} {Q : VK} (h1 : ShapeAt C H p fl s S) (h2 : ShapeAt C H p2 fl2 s2 S2) (o1 : okSh s) (o2 : okSh s2) (w1 : ∀ z ∈ fl, isW z) (w2 : ∀ z ∈ fl2, isW z)
    {b : Bool} (hb : (decide (fl = fl2) && TbE s s2) = b) (q : ∀ H', Ex H H' → Q (.bl (g b)) H') : rOwnB K C (EqR K C) g (.ref p) (.ref p2) H Q := by
  obtain ⟨dx, ft, tb, a1, a2⟩ := id h1
  obtain ⟨dx2, ft2, tb2, b1, b2⟩ := id h2
  exact ⟨p, dx, _, .ref C, b, rfl, a1, ty_shape T b1, by simp [PySem.W.notFirst], ⟨p, fl, s, S, rfl, h1, o1, w1, .inl ⟨p2, fl2, s2, S2, rfl, h2, o2, w2, hb.symm⟩⟩, q⟩
theorem own_other {K : PySem.W.Frag} {mg : Str → Option Value} {C : Addr} (T : Txt K mg C) {g : Bool → Bool} {H : Hp} {p : Addr} {y : V} {t : Value} {fl : List Str} {s : Sh} {S : Addr → Prop} {Q : VK} (h1 : ShapeAt C H p fl s S) (o1 : okSh s) (w1 : ∀ z ∈ fl, isW z) (ty : ∀ H', Ex H H' → TyX K H' y t) (hn : PySem.W.notFirst K C t = true) (hk : PySem.W.kitOne K t (.ref C) = some false)
    (q : ∀ H', Ex H H' → Q (.bl (g false)) H') : rOwnB K C (EqR K C) g (.ref p) y H Q := by
  obtain ⟨dx, ft, tb, a1, a2⟩ := id h1
  exact ⟨p, dx, _, t, false, rfl, a1, ty H (Ex.refl H), hn, ⟨p, fl, s, S, rfl, h1, o1, w1, .inr ⟨t, ty H (Ex.refl H), ty, hk, rfl⟩⟩, q⟩
theorem main_ok {l : PySem.W.OpenLaw} {w : World} {K : PySem.W.Frag} {mg : Str → Option Value} {fa C_Shape : Addr} (T : Txt K mg C_Shape) (R : Prg K mg C_Shape) (hfa : mg "law" = some (.ref fa)) :
    ∃ fd : FuncData, (∀ (s : Shared) (v : Value), BindsTo s fd ⟨[v], []⟩ [("_law_script", v)]) ∧ ∀ base : Heap, K.In base → base.Ns mainGlobals mg → FnOk l.prog w K mg base CX0 60 fa fd ["_law_script"] (spLaw K) := by
  obtain ⟨f, fd, at_, F, kp⟩ := R.law
  have e := hfa.symm.trans at_
  cases e
  obtain ⟨oc, od, kV, doc, pm, an, cdv0, ct, osl, rfl, lk, hcd⟩ := F.ex
  refine ⟨PySem.W.fnOf "law" "law" (defArgs s_law) (defBody s_law) (defScope s_law) .none kV doc pm an cdv0 ct, fun s v => .of_eq rfl, fun base _ _ => ?_⟩
  obtain ⟨_, _, G__law_stream⟩ := ok__law_stream (P := l.prog) (w := w) (base := base) T R
  obtain ⟨_, _, G__law_draw⟩ := ok__law_draw (P := l.prog) (w := w) (base := base) T R
  obtain ⟨_, _, G__law_names⟩ := ok__law_names (P := l.prog) (w := w) (base := base) T R
  obtain ⟨_, _, G__law_lists⟩ := ok__law_lists (P := l.prog) (w := w) (base := base) T R
  obtain ⟨_, _, G__law_copy⟩ := ok__law_copy (P := l.prog) (w := w) (base := base) T R 7
  obtain ⟨_, _, G__law_turned⟩ := ok__law_turned (P := l.prog) (w := w) (base := base) T R 7
  obtain ⟨_, _, G__law_changed⟩ := ok__law_changed (P := l.prog) (w := w) (base := base) T R
  obtain ⟨_, _, G_Shape⟩ := ok_Shape_init (P := l.prog) (w := w) (base := base) T R
  obtain ⟨_, _, G_eq, G_eqF, G_eqB⟩ := ok_Shape_eq (P := l.prog) (w := w) (base := base) T R
  refine F.ok sc_law (fun vs H Q E h => ?_) (fun cdv A outer s H vs Q E hr h => ?_)
  · obtain ⟨a, ns, rfl, _⟩ := h; rfl
  · obtain ⟨a, ns, rfl, hs, _, k⟩ := h
    refine ⟨_, (pss_cons (ps_set (i := 1) sc_law.nd rfl (Or.inl rfl) (pcl G__law_stream hr (pa_cons (pv 0) pa_nil)))
  (pss_cons (ps_set (i := 2) sc_law.nd rfl (Or.inl rfl) (pcl G__law_draw hr (pa_cons (pv 1) (pa_cons pe_int pa_nil))))
  (pss_cons (ps_set (i := 3) sc_law.nd rfl (Or.inl rfl) (pcl G__law_names hr (pa_cons (pv 1) (pa_cons (pcl G__law_draw hr (pa_cons (pv 1) (pa_cons pe_int pa_nil))) (pa_cons (pe_lst pa_nil) pa_nil)))))
  (pss_cons (ps_set (i := 4) sc_law.nd rfl (Or.inl rfl) (pcl G__law_lists hr (pa_cons (pv 1) (pa_cons pe_int pa_nil))))
  (pss_cons (ps_set (i := 5) sc_law.nd rfl (Or.inl rfl) (pe_lst (pa_cons (pv 3) (pa_cons (pv 4) pa_nil))))
  (Evl.pss_cut (ps_if (pt_cmpR op_gt (pv 2) pe_int (nomark _)) (pss_one (ps_set (i := 5) sc_law.nd rfl (Or.inl rfl) (pcl G__law_changed hr (pa_cons (pv 1) (pa_cons (pv 3) (pa_cons (pv 4) pa_nil)))))) pss_nil)
  (Evl.pss_cut (ps_if (pt_cmpR op_eq (pv 2) pe_int (nomark _)) (pss_one (ps_set (i := 5) sc_law.nd rfl (Or.inl rfl) (pe_lst (pa_cons (pcl G__law_names hr (pa_cons (pv 1) (pa_cons (pcl G__law_draw hr (pa_cons (pv 1) (pa_cons pe_int pa_nil))) (pa_cons (pe_lst pa_nil) pa_nil)))) (pa_cons (pcl G__law_lists hr (pa_cons (pv 1) (pa_cons pe_int pa_nil))) pa_nil))))) pss_nil)
  (Evl.pss_cut (ps_if (pt_cmpR op_eq (pe_op op_mod (pv 2) pe_int) pe_int (nomark _)) (pss_one (ps_set (i := 5) sc_law.nd rfl (Or.inl rfl) (pe_lst (pa_cons (pe_lstRev rfl (by rfl) T.list (by rfl) T.reversed (pe_callTy (r := rListA K) call_list_of (by rfl) T.list (by decide +kernel) (pa_cons (pe_ix (r := rIxL K) ix_list (pv 5) pe_int (fun _ _ => rfl)) pa_nil))) (pa_cons (pcl G__law_turned hr (pa_cons (pe_ix (r := rIxL K) ix_list (pv 5) pe_int (fun _ _ => rfl)) pa_nil)) pa_nil))))) pss_nil)
  (pss_cons (ps_set (i := 6) sc_law.nd rfl (Or.inl rfl) (pmk G_Shape T.mk_Shape T.kp_Shape T.at_Shape hr (pa_cons (pe_callTy (r := rListA K) call_list_of (by rfl) T.list (by decide +kernel) (pa_cons (pv 3) pa_nil)) (pa_cons (pcl G__law_copy hr (pa_cons (pv 4) pa_nil)) pa_nil))))
  (pss_cons (ps_set (i := 7) sc_law.nd rfl (Or.inl rfl) (pmk G_Shape T.mk_Shape T.kp_Shape T.at_Shape hr (pa_cons (pe_callTy (r := rTupA K) call_tuple_of (by rfl) T.tuple (by decide +kernel) (pa_cons (pe_ix (r := rIxL K) ix_list (pv 5) pe_int (fun _ _ => rfl)) pa_nil)) (pa_cons (pcl G__law_copy hr (pa_cons (pe_ix (r := rIxL K) ix_list (pv 5) pe_int (fun _ _ => rfl)) pa_nil)) pa_nil))))
  (pss_cons (ps_set (i := 8) sc_law.nd rfl (Or.inl rfl) (pe_and (pe_cmpR (r := rEqX K C_Shape) (op_eqX hr hr.units G_eq G_eqF G_eqB (by decide)) (pe_callB (r := rSortedS K) cr_sortedS (by rfl) T.sorted (by decide +kernel) (pa_cons (pv 3) pa_nil)) (pe_callB (r := rSortedS K) cr_sortedS (by rfl) T.sorted (by decide +kernel) (pa_cons (pe_ix (r := rIxL K) ix_list (pv 5) pe_int (fun _ _ => rfl)) pa_nil)) (nomark _)) (pe_one (pe_cmpR (r := rEqX K C_Shape) (op_eqX hr hr.units G_eq G_eqF G_eqB (by decide)) (pv 4) (pe_ix (r := rIxL K) ix_list (pv 5) pe_int (fun _ _ => rfl)) (nomark _)))))
  (pss_cons (ps_for PassesOwn.never rfl (show PI _ _ _ (iTup K _) from pi_tup (pe_tup (pa_cons (pe_cmpR (r := rEqX K C_Shape) (op_eqX hr hr.units G_eq G_eqF G_eqB (by decide)) (pv 6) (pv 7) (nomark _)) (pa_cons (pe_cmpR (r := rEqX K C_Shape) (op_eqX hr hr.units G_eq G_eqF G_eqB (by decide)) (pv 7) (pv 6) (nomark _)) (pa_cons (pe_not (pe_cmpR (r := rOwnB K C_Shape (EqR K C_Shape) not) (op_neX hr G_eq G_eqF ⟨T.ne_Shape, T.km_Shape⟩ G_eqB (by decide)) (pv 6) (pv 7) (nomark _))) (pa_cons (pe_not (pe_cmpR (r := rOwnB K C_Shape (EqR K C_Shape) not) (op_neX hr G_eq G_eqF ⟨T.ne_Shape, T.km_Shape⟩ G_eqB (by decide)) (pv 7) (pv 6) (nomark _))) pa_nil)))))) (pg_name (i := 9) sc_law.nd rfl (Or.inl rfl))
    (pss_one (ps_if (PW.pt (pw_or (pt_not (pt_val (pe_callB (r := rIsi K) call_isi (by rfl) T.isinstance (by decide +kernel) (pa_cons (pv 9) (pa_cons (pe_bltn (v := .ty "bool") (by rfl) T.bool boot_bool rfl) pa_nil))))) (pw_or1 (pt_cmpR op_ne (pv 9) (pv 8) (nomark _))))) pss_never pss_nil)))
  (pss_cons (ps_for PassesOwn.never rfl (show PI _ _ _ (iTup K _) from pi_tup (pe_tup (pa_cons pe_str (pa_cons (pe_tup pa_nil) (pa_cons pe_non pa_nil))))) (pg_name (i := 10) sc_law.nd rfl (Or.inl rfl))
    (pss_one (ps_if (PW.pt (pw_or (pt_cmpR op_isnot_bl (pe_cmpR (r := rEqX K C_Shape) (op_eqX hr hr.units G_eq G_eqF G_eqB (by decide)) (pv 6) (pv 10) (nomark _)) pe_bl (nomark _)) (pw_or1 (pt_cmpR op_isnot_bl (pe_cmpR (r := rOwnB K C_Shape (EqR K C_Shape) not) (op_neX hr G_eq G_eqF ⟨T.ne_Shape, T.km_Shape⟩ G_eqB (by decide)) (pv 6) (pv 10) (nomark _)) pe_bl (nomark _))))) pss_never pss_nil)))
  (pss_one (ps_ret (pe_cmpR op_is_bl (pe_cmpR (r := rEqX K C_Shape) (op_eqX hr hr.units G_eq G_eqF G_eqB (by decide)) (pv 6) (pv 6) (nomark _)) pe_bl (nomark _))))))))))))))))), ?_⟩
    refine ⟨_, rfl, a, ns, rfl, hs, fun H1 S c st => ?_⟩
    refine ⟨_, rfl, S, c, 9, rfl, st, by decide, by decide, fun H2 way m2 w0 w1 => ?_⟩
    refine ⟨_, rfl, _, rfl, S, c, 3, rfl, m2.z, by decide, by decide, fun H4 nf m4 f0 f1 => ⟨(by show 0 ≤ sizeLine; decide), fun t0 ht0 => ⟨S, c, t0, nf, rfl, (Mv.new m4.z ht0).z, f0, by omega, upd_same, fun H5 qf fl m5 hqf hqf5 lf flW fnd => ?_⟩⟩⟩
    refine ⟨_, rfl, S, c, rfl, m5.z, fun H6 ql dl z m6 hl hsh okS => ?_⟩
    have fS := Mv.strs m5.z hqf5
    have hqf6 := m6.fr qf _ fS.1 fS.2 hqf5
    have nS5 : ¬ H5 S = none := fun h => (m5.z.someS h).1 rfl
    have nc5 : ¬ H5 c = none := fun h => (m5.z.someS h).2 rfl
    have fl2 : fl.length ≤ 2 := by omega
    have st6 := m6.z
    refine ⟨_, rfl, _, rfl, (by show 2 ≤ sizeLine; decide), fun o ho => ?_⟩
    have m7 : Mv S c H6 (upd H6 o (.lst [.ref qf, .ref ql])) := Mv.new st6 ho
    have o7 : Oth (upd H6 o (.lst [.ref qf, .ref ql])) o fl dl z := ⟨qf, .ref ql, _, upd_same, (Ex.new ho) _ _ hqf6, fl2, flW, fnd, rep_ex (Ex.new ho) hl, hsh, okS⟩
    generalize (upd H6 o (.lst [.ref qf, .ref ql])) = H7 at m7 o7 ⊢
    -- the second one: changed
    refine Evl.q_cut (M := fun σ' H' => ∃ (o : Addr) (gl : List Str) (d : D) (z2 : Sh), σ' = [some (.ref a), some (.ref S), some (.int way), some (.ref qf), some (.ref ql), some (.ref o), none, none, none, none, none] ∧ Mv S c H6 H' ∧ Oth H' o gl d z2) ?_ ?_
    · refine Evl.s_when (b := decide (3 < way)) (Evl.et_test (Evl.ev_op (Evl.ev_var rfl) Evl.ev_c Evl.rv_I0)) (fun hb H8 e8 => ?_) (fun hb H8 e8 => ?_)
      · have m8 := m7.tx e8
        refine ⟨_, rfl, _, rfl, _, rfl, S, c, qf, .ref ql, fl, (fun b => H5 b = none), dl, z, rfl, m8.z, m8.fr qf _ fS.1 fS.2 hqf6, fl2, flW, fnd, rep_mv m8 nS5 nc5 hl, hsh, okS, nS5, nc5, fun H9 q gl d' s' ga v' mv hq hq' hga g2 gW gnd hr' hd' hs' => ?_⟩
        exact ⟨q, gl, d', s', rfl, m8.trans mv, ga, v', _, hq', hga, g2, gW, gnd, hr', hd', hs'⟩
      · exact ⟨o, fl, dl, z, rfl, m7.tx e8, o7.ex e8⟩
    rintro σ' H8 ⟨o, gl, d, z2, rfl, m8, o8⟩
    clear o7 m7 ho
    -- or an independent one
    refine Evl.q_cut (M := fun σ' H' => ∃ (o : Addr) (gl : List Str) (d : D) (z2 : Sh), σ' = [some (.ref a), some (.ref S), some (.int way), some (.ref qf), some (.ref ql), some (.ref o), none, none, none, none, none] ∧ Mv S c H6 H' ∧ Oth H' o gl d z2) ?_ ?_
    · refine Evl.s_when (b := decide (V.int way = .int 3)) (Evl.et_test (Evl.ev_op (Evl.ev_var rfl) Evl.ev_c (Evl.rv_eq rfl))) (fun hb H9 e9 => ?_) (fun hb H9 e9 => ?_)
      · have m9 := m8.tx e9
        refine ⟨_, rfl, _, rfl, S, c, 3, rfl, m9.z, by decide, by decide, fun Ha n2 ma n0 n1 => ⟨(by show 0 ≤ sizeLine; decide), fun t1 ht1 => ⟨S, c, t1, n2, rfl, (Mv.new ma.z ht1).z, n0, by omega, upd_same, fun Hb qg ul mb hqg hqg9 lg gW gnd => ⟨_, rfl, S, c, rfl, mb.z, fun Hc qm dm zm mc hm hsm okm => ⟨(by show 2 ≤ sizeLine; decide), fun o2 ho2 => ?_⟩⟩⟩⟩⟩
        have gS := Mv.strs mb.z hqg9
        have mbz := ((m9.trans ma).tx (Ex.new (o := .lst []) ht1)).trans mb
        exact ⟨o2, ul, dm, zm, rfl, (mbz.trans mc).tx (Ex.new ho2), qg, .ref qm, _, upd_same, (Ex.new ho2) _ _ (mc.fr qg _ gS.1 gS.2 hqg9), by omega, gW, gnd, rep_ex (Ex.new ho2) hm, hsm, okm⟩
      · exact ⟨o, gl, d, z2, rfl, m8.tx e9, o8.ex e9⟩
    clear o8 m8
    rintro σ' H8 ⟨o, gl, d, z2, rfl, m8, o8⟩
    -- turned about
    refine Evl.q_cut (M := fun σ' H' => ∃ (o : Addr) (gl : List Str) (d : D) (z2 : Sh), σ' = [some (.ref a), some (.ref S), some (.int way), some (.ref qf), some (.ref ql), some (.ref o), none, none, none, none, none] ∧ Mv S c H6 H' ∧ Oth H' o gl d z2) ?_ ?_
    · refine Evl.s_when (b := decide (V.int (way % 2) = .int 1)) (Evl.et_test (Evl.ev_op (Evl.ev_op (Evl.ev_var rfl) Evl.ev_c (Evl.rv_I (by show (0 : Int) < 2; decide))) Evl.ev_c (Evl.rv_eq rfl))) (fun hb H9 e9 => ?_) (fun hb H9 e9 => ?_)
      · have m9 := m8.tx e9
        obtain ⟨fB, vB, PB, h1, h2, h3, h4, h5, h6, h7, h8⟩ := o8.ex e9
        refine ⟨_, rfl, o, _, 0, .ref fB, rfl, rfl, Evl.sq_of h1, rfl, fB, gl.map V.str, rfl, .inl (Evl.sq_of h2), fun l1 hl1 => ⟨l1, gl.map V.str, rfl, Evl.sq_of upd_same, fun g hg => ?_⟩⟩
        have e10 := (Ex.new (o := .lst (gl.map V.str)) hl1).trans (Ex.new (o := .lst (gl.map V.str).reverse) hg)
        have hg10 : (upd (upd H9 l1 (.lst (gl.map V.str))) g (.lst (gl.map V.str).reverse)) g = some (.lst (gl.map V.str).reverse) := upd_same
        generalize (upd (upd H9 l1 (.lst (gl.map V.str))) g (.lst (gl.map V.str).reverse)) = Ha at e10 hg10 ⊢
        refine ⟨_, rfl, o, _, 1, vB, rfl, rfl, Evl.sq_of (e10 _ _ h1), rfl, vB, PB, d, rfl, rep_ex e10 h6, plT_sh h7 h8, fun Hb v' e11 hr' => ⟨(by show 2 ≤ sizeLine; decide), fun o2 ho2 => ?_⟩⟩
        exact ⟨o2, gl.reverse, turn 7 d, trS z2, rfl, ((m9.tx e10).tx e11).tx (Ex.new ho2), g, v', _, upd_same, (Ex.new ho2) _ _ (e11 _ _ (by rw [hg10, List.map_reverse])), by rw [List.length_reverse]; exact h3, fun x hx => h4 x (List.mem_reverse.mp hx), (List.reverse_perm _).nodup_iff.mpr h5, rep_ex (Ex.new ho2) hr', turn_sh (n := 2) h7, okSh_tr h8⟩
      · exact ⟨o, gl, d, z2, rfl, m8.tx e9, o8.ex e9⟩
    clear o8 m8
    rintro σ' H9 ⟨o, gl, d, z2, rfl, m9, o9⟩
    have hqf9 := m9.fr qf _ fS.1 fS.2 hqf6
    have hl9 := rep_mv m9 nS5 nc5 hl
    clear m9 hqf6 hl m6 m5 m4 m2 st hqf5 hqf st6
    obtain ⟨fB, vB, PB, h1, h2, h3, h4, h5, h6, h7, h8⟩ := o9
    -- the first shape
    refine ⟨_, rfl, qf, _, rfl, .inl (Evl.sq_of hqf9), fun q2 hq2 => ⟨_, rfl, .ref ql, _, dl, rfl, rep_ex (Ex.new hq2) hl9, kn_sh hsh okS 7, fun H10 vc e10 hc => fun x dx hx hdx nxd => ?_⟩⟩
    have oldI : ∀ b o, H10 b = some o → (upd (upd H10 dx (.own x)) x (.ins C_Shape dx [])) b = some o := fun b o h => by
      have n1 : b ≠ x := fun e => by rw [e, hx] at h; cases h
      have n2 : b ≠ dx := fun e => by rw [e, hdx] at h; cases h
      rw [upd_ne n1, upd_ne n2]; exact h
    refine ⟨x, dx, q2, fl, vc, 7, _, dl, z, rfl, upd_same, .inl (oldI _ _ (e10 _ _ upd_same)), fl2, flW, fnd, rep_ex oldI (rep_dom hc), hsh, okS, fun h => h.2 hx, fun H11 fl' fr11 permf so hS1 => ⟨rfl, ?_⟩⟩
    have e911 : Ex H9 H11 := ((Ex.new hq2).trans e10).trans fun b o h => fr11 b o (fun e => by rw [e, hx] at h; cases h) (oldI _ _ h)
    have ef1 := srt_eq fl2 permf so
    subst ef1
    clear fr11 oldI hc e10 hx hdx nxd
    -- the second shape
    refine ⟨_, rfl, o, _, 0, .ref fB, rfl, rfl, Evl.sq_of (e911 _ _ h1), rfl, fB, _, rfl, .inl ⟨Evl.sq_of (e911 _ _ h2), fun t ht => ⟨_, rfl, o, _, 1, vB, rfl, rfl, Evl.sq_of ((Ex.new ht) _ _ (e911 _ _ h1)), rfl, vB, PB, d, rfl, rep_ex (Ex.new ht) (rep_ex e911 h6), kn_sh h7 h8 7, fun H12 vd e12 hd => fun y dy hy hdy nyd => ?_⟩⟩⟩
    have oldI : ∀ b o, H12 b = some o → (upd (upd H12 dy (.own y)) y (.ins C_Shape dy [])) b = some o := fun b o h => by
      have n1 : b ≠ y := fun e => by rw [e, hy] at h; cases h
      have n2 : b ≠ dy := fun e => by rw [e, hdy] at h; cases h
      rw [upd_ne n1, upd_ne n2]; exact h
    refine ⟨y, dy, t, gl, vd, 7, _, d, z2, rfl, upd_same, .inr (oldI _ _ (e12 _ _ upd_same)), h3, h4, h5, rep_ex oldI (rep_dom hd), h7, h8, fun h => h.2 hy, fun H13 gl' fr13 permg sog hS2 => ⟨rfl, ?_⟩⟩
    have e1113 : Ex H11 H13 := ((Ex.new ht).trans e12).trans fun b o h => fr13 b o (fun e => by rw [e, hy] at h; cases h) (oldI _ _ h)
    have ef2 := srt_eq h3 permg sog
    subst ef2
    clear fr13 oldI hd e12 hy hdy nyd
    have e913 := e911.trans e1113
    replace hS1 := hS1.ex e1113
    have w1 : ∀ z ∈ srt fl, isW z := fun z hz => flW z (srt_perm.mem_iff.mp hz)
    have w2 : ∀ z ∈ srt gl, isW z := fun z hz => h4 z (srt_perm.mem_iff.mp hz)
    have lete := LE_TE okS h8
    -- what is due
    refine gname_go ?_
    dsimp only
    refine Evl.q_asg (v := .bl (decide (srt fl = srt gl) && LE z z2)) (Evl.ev_andV (a := decide (srt fl = srt gl)) (b := LE z z2) (fun Ha ea Q q => ?_) (fun _ Ha ea Q q => ?_)) fun H14 e14 => ?_
    · refine el_sorted (H := H13) (Evl.ev_var rfl) (e913 _ _ hqf9) fl2 Ha ea _ fun p1 Hb _ eb hp1 => ?_
      refine el_sorted (H := Hb) (te := tOp (rIxL K) (tVar 5) (tC (.int 0))) (a := fB) (Evl.ev_op (Evl.ev_var rfl) Evl.ev_c (Evl.rv_ixL (Evl.sq_of (eb _ _ (ea _ _ (e913 _ _ h1)))) rfl)) (eb _ _ (ea _ _ (e913 _ _ h2))) h3 Hb (Ex.refl _) _ fun p2 Hc _ ec hp2 => ?_
      exact .inl (.inl (eq_lsts (Evl.sq_of (ec _ _ hp1)) (Evl.sq_of hp2) w1 w2 (q Hc (eb.trans ec))))
    · exact ⟨_, rfl, _, rfl, o, _, 1, vB, rfl, rfl, Evl.sq_of (ea _ _ (e913 _ _ h1)), rfl, .inl (.inr (top_sh hsh h7 okS h8 (rep_ex ea (rep_ex e913 hl9)) (rep_ex ea (rep_ex e913 h6)) (q Ha (Ex.refl _))))⟩
    rw [lete]
    replace hS1 := hS1.ex e14
    replace hS2 := hS2.ex e14
    clear lete e14 e913 e911 e1113 h1 h2 h6 hl9 hqf9
    obtain ⟨b, hb⟩ : ∃ b, (decide (srt fl = srt gl) && TbE z z2) = b := ⟨_, rfl⟩
    have hb2 : (decide (srt gl = srt fl) && TbE z2 z) = b := by
      rw [← hb, TE_symm h8 okS]
      congr 1
      exact Bool.eq_iff_iff.mpr (by simp [eq_comm])
    have hb3 : (decide (srt fl = srt fl) && TbE z z) = true := by rw [TE_refl okS, decide_eq_true rfl]; rfl
    rw [hb]
    refine q_forNT (xs := [.bl b, .bl b, .bl b, .bl b]) (Evl.eu_tup (Evl.ea_cons (fun H1 e Q q => ⟨_, rfl, _, rfl, .inr (own_shape T (hS1.ex e) (hS2.ex e) okS h8 w1 w2 hb q)⟩) (Evl.ea_cons (fun H1 e Q q => ⟨_, rfl, _, rfl, .inr (own_shape T (hS2.ex e) (hS1.ex e) h8 okS w2 w1 hb2 q)⟩)
      (Evl.ea_cons (Evl.ev_is (Evl.ev_notV (a := !b) (fun H1 e Q q => ⟨_, rfl, _, rfl, own_shape T (hS1.ex e) (hS2.ex e) okS h8 w1 w2 hb q⟩)) (by cases b <;> rfl)) (Evl.ea_cons (Evl.ev_is (Evl.ev_notV (a := !b) (fun H1 e Q q => ⟨_, rfl, _, rfl, own_shape T (hS2.ex e) (hS1.ex e) h8 okS w2 w1 hb2 q⟩)) (by cases b <;> rfl)) Evl.ea_nil)))) (by show 4 ≤ 100000; decide))
      (fun p i σ' H' => H' p = some (.tup [.bl b, .bl b, .bl b, .bl b]) ∧ ∃ o9 : Option V, σ' = [some (.ref a), some (.ref S), some (.int way), some (.ref qf), some (.ref ql), some (.ref o), some (.ref x), some (.ref y), some (.bl b), o9, none] ∧ Ex H14 H') (fun p H1 e1 hp => ⟨hp, _, rfl, e1⟩) (fun p i σ' H' _ h => Evl.st_of h.1) (fun p i v σ' H' hv pv => ?_) fun p σ' H' pv => ?_
    · obtain ⟨hp, o9, rfl, eH⟩ := pv
      have ev : v = .bl b := by
        have := List.mem_of_getElem? hv
        simpa using this
      subst ev
      refine Evl.s_when (b := false) (Evl.et_or (a := false) (b := false) (Evl.et_not (a := true) (Evl.et_B (ev_isi (ty := .type "bool") (b := true) (Evl.ev_var rfl) (fun H1 e1 => .base (.bl b)) (kit_ty (by decide +kernel))))) fun _ => Evl.et_is (Evl.et_test (Evl.ev_op (Evl.ev_var rfl) (Evl.ev_var rfl) (Evl.rv_ne rfl))) (by simp)) (fun h => nomatch h) fun _ H1 e1 => ?_
      exact ⟨e1 _ _ hp, _, rfl, eH.trans e1⟩
    · obtain ⟨hp, o9, rfl, eH⟩ := pv
      replace hS1 := hS1.ex eH
      clear hp eH hS2
      refine ⟨(by show 0 ≤ sizeLine; decide), fun u hu => ⟨(by show 3 ≤ sizeLine; decide), fun p2 hp2 => ⟨p2, rfl, ⟨_, Evl.st_of upd_same⟩, ?_⟩⟩⟩
      have e2 : Ex H' (upd (upd H' u (.tup [])) p2 (.tup [.str "a", .ref u, .non])) := (Ex.new hu).trans (Ex.new hp2)
      have hp3 : (upd (upd H' u (.tup [])) p2 (.tup [.str "a", .ref u, .non])) p2 = some (.tup [.str "a", .ref u, .non]) := upd_same
      have hu3 : (upd (upd H' u (.tup [])) p2 (.tup [.str "a", .ref u, .non])) u = some (.tup []) := (Ex.new hp2) _ _ upd_same
      generalize (upd (upd H' u (.tup [])) p2 (.tup [.str "a", .ref u, .non])) = H2 at e2 hp3 hu3 ⊢
      replace hS1 := hS1.ex e2
      refine for_tup (xs := [.str "a", .ref u, .non]) (fun i σ' H' => ∃ o10 : Option V, σ' = [some (.ref a), some (.ref S), some (.int way), some (.ref qf), some (.ref ql), some (.ref o), some (.ref x), some (.ref y), some (.bl b), o9, o10] ∧ Ex H2 H') ⟨_, rfl, Ex.refl H2⟩ (fun i σ' H' _ h => Evl.st_of (h.choose_spec.2 _ _ hp3)) (fun i v σ' H3 hv pv => ?_) fun σ' H3 pv => ?_
      · obtain ⟨o10, rfl, e3⟩ := pv
        obtain ⟨t, ty, hn, hk⟩ : ∃ t, (∀ H', Ex H3 H' → TyX K H' v t) ∧ PySem.W.notFirst K C_Shape t = true ∧ PySem.W.kitOne K t (.ref C_Shape) = some false := by
          have hm := List.mem_of_getElem? hv
          rcases List.mem_cons.mp hm with rfl | hm
          · exact ⟨_, fun _ _ => .base (.str _), rfl, T.ks_str⟩
          · rcases List.mem_cons.mp hm with rfl | hm
            · exact ⟨_, fun H' e' => .base (.tup (e' _ _ (e3 _ _ hu3))), rfl, T.ks_tup⟩
            · rw [List.mem_singleton.mp hm]
              exact ⟨_, fun _ _ => .base .non, rfl, T.ks_non⟩
        have rv : ∀ {g : Bool} {x y : Bool}, Evl.RV (fun x y H Q => ∃ a b, x = V.bl a ∧ y = V.bl b ∧ Q (V.bl !decide (a = b)) H) (.bl x) (.bl y) H3 (.bl (!decide (x = y))) := fun {_ x y} H1 _ Q q => ⟨x, y, rfl, rfl, q H1 (Ex.refl H1)⟩
        refine gname_go ?_
        refine Evl.s_when (b := false) (Evl.et_or (a := false) (b := false) (Evl.et_test (Evl.ev_is (Evl.ev_op (x := .bl false) (y := .bl false) (fun H1 e Q q => ⟨_, rfl, _, rfl, .inr (own_other T ((hS1.ex e3).ex e) okS w1 (fun H' e' => ty H' (e.trans e')) hn hk q)⟩) Evl.ev_c (rv (g := true))) rfl)) fun _ => Evl.et_test (Evl.ev_is (Evl.ev_op (x := .bl true) (y := .bl true) (fun H1 e Q q => ⟨_, rfl, _, rfl, own_other T ((hS1.ex e3).ex e) okS w1 (fun H' e' => ty H' (e.trans e')) hn hk q⟩) Evl.ev_c (rv (g := true))) rfl)) (fun h => nomatch h) fun _ H1 e1 => ?_
        exact ⟨_, rfl, e3.trans e1⟩
      · obtain ⟨o10, rfl, e3⟩ := pv
        have h1 := hS1.ex e3
        exact ⟨_, rfl, _, rfl, .inr (own_shape T h1 h1 okS okS w1 w1 hb3 fun H4 e4 => ⟨true, true, rfl, rfl, k H4⟩)⟩
end Pk

namespace Pk
open PySem PySem.Spec PyProof.Rows L2 Ssb
theorem all_mk {l : PySem.W.OpenLaw} {w : World} {K : PySem.W.Frag} {h : Heap} {mg : Str → Option Value} {fa C_Shape : Addr} (X : K.In h) (G : h.Ns mainGlobals mg) (hfa : mg "law" = some (.ref fa))
    (aShape : PySem.W.nsIn K mainGlobals "Shape" = some (some (.ref C_Shape)))
    (pgShape : PySem.W.plainGet K C_Shape Str.empty = true)
    (hdShape : PySem.W.hasDictIn K C_Shape = true)
    (poShape : PySem.W.plainOver K C_Shape = true)
    (saShape : PySem.W.findIn K (.ref C_Shape) "__setattr__" = some (some (.builtin "object.__setattr__")))
    (mkShape : PySem.W.makesIn K C_Shape = true)
    (kcShape : PySem.W.keepIn K (.ref C_Shape) = true)
    (nShapeflags : PySem.W.findIn K (.ref C_Shape) "flags" = some none)
    (nShapetable : PySem.W.findIn K (.ref C_Shape) "table" = some none)
    (nlS : PySem.W.findIn K (.ref C_Shape) "__class__" = some (some (.builtin "object.__class__")))
    (nmS : PySem.W.mroIn K C_Shape (.type "object") = some true)
    (nsS : PySem.W.kitOne K (.ref C_Shape) (.ref C_Shape) = some true)
    (nnS : PySem.W.findIn K (.ref C_Shape) "__ne__" = some (some (.builtin "object.__ne__")))
    (ngS : PySem.W.specialIn K (.builtin "object.__class__") "__get__" = some (some (.builtin "getset_descriptor.__get__")))
    (ntS : PySem.W.takesIn K (.builtin "object.__class__") = some true)
    (n1S : PySem.W.kitOne K (.type "str") (.ref C_Shape) = some false)
    (n2S : PySem.W.kitOne K (.type "tuple") (.ref C_Shape) = some false)
    (n3S : PySem.W.kitOne K (.type "NoneType") (.ref C_Shape) = some false)
    (z_all : PySem.W.nsIn K mainGlobals "all" = some none)
    (z_enumerate : PySem.W.nsIn K mainGlobals "enumerate" = some none)
    (z_int : PySem.W.nsIn K mainGlobals "int" = some none)
    (z_str : PySem.W.nsIn K mainGlobals "str" = some none)
    (z_bool : PySem.W.nsIn K mainGlobals "bool" = some none)
    (z_isinstance : PySem.W.nsIn K mainGlobals "isinstance" = some none)
    (z_len : PySem.W.nsIn K mainGlobals "len" = some none)
    (z_list : PySem.W.nsIn K mainGlobals "list" = some none)
    (z_max : PySem.W.nsIn K mainGlobals "max" = some none)
    (z_range : PySem.W.nsIn K mainGlobals "range" = some none)
    (z_reversed : PySem.W.nsIn K mainGlobals "reversed" = some none)
    (z_sorted : PySem.W.nsIn K mainGlobals "sorted" = some none)
    (z_tuple : PySem.W.nsIn K mainGlobals "tuple" = some none)
    (z_set : PySem.W.nsIn K mainGlobals "set" = some none)
    (z_dict : PySem.W.nsIn K mainGlobals "dict" = some none)
    (d_is_word : Here K mg "is_word" s_is_word)
    (d_are_words : Here K mg "are_words" s_are_words)
    (d_has_names : Here K mg "has_names" s_has_names)
    (d_is_named : Here K mg "is_named" s_is_named)
    (d_wrong_part : Here K mg "wrong_part" s_wrong_part)
    (d_are_lists : Here K mg "are_lists" s_are_lists)
    (d_are_list_shapes : Here K mg "are_list_shapes" s_are_list_shapes)
    (d_list_rows : Here K mg "list_rows" s_list_rows)
    (d_are_fields : Here K mg "are_fields" s_are_fields)
    (d_Shape_init : HereM K C_Shape "__init__" "Shape.__init__" s_Shape_init)
    (d_Shape_eq : HereM K C_Shape "__eq__" "Shape.__eq__" s_Shape_eq)
    (d__law_stream : Here K mg "_law_stream" s__law_stream)
    (d__law_draw : Here K mg "_law_draw" s__law_draw)
    (d__law_copy : Here K mg "_law_copy" s__law_copy)
    (d__law_turned : Here K mg "_law_turned" s__law_turned)
    (d__law_word : Here K mg "_law_word" s__law_word)
    (d__law_names : Here K mg "_law_names" s__law_names)
    (d__law_fields : Here K mg "_law_fields" s__law_fields)
    (d__law_lists : Here K mg "_law_lists" s__law_lists)
    (d__law_about : Here K mg "_law_about" s__law_about)
    (d__law_without : Here K mg "_law_without" s__law_without)
    (d__law_changed_list : Here K mg "_law_changed_list" s__law_changed_list)
    (d__law_changed : Here K mg "_law_changed" s__law_changed)
    (d_law : Here K mg "law" s_law) :
    ∃ fd : FuncData, (∀ (s : Shared) (v : Value), BindsTo s fd ⟨[v], []⟩ [("_law_script", v)]) ∧ ∀ base : Heap, K.In base → base.Ns mainGlobals mg → FnOk l.prog w K mg base CX0 60 fa fd ["_law_script"] (spLaw K) := by
  have T : Txt K mg C_Shape := { all := PySem.W.mg_none_of X G z_all, enumerate := PySem.W.mg_none_of X G z_enumerate, int := PySem.W.mg_none_of X G z_int, str := PySem.W.mg_none_of X G z_str, bool := PySem.W.mg_none_of X G z_bool, isinstance := PySem.W.mg_none_of X G z_isinstance, len := PySem.W.mg_none_of X G z_len, list := PySem.W.mg_none_of X G z_list, max := PySem.W.mg_none_of X G z_max, range := PySem.W.mg_none_of X G z_range, reversed := PySem.W.mg_none_of X G z_reversed, sorted := PySem.W.mg_none_of X G z_sorted, tuple := PySem.W.mg_none_of X G z_tuple, set := PySem.W.mg_none_of X G z_set, dict := PySem.W.mg_none_of X G z_dict, cl_Shape := ⟨pgShape, hdShape, poShape, saShape⟩, mk_Shape := mkShape, kp_Shape := kcShape, at_Shape := PySem.W.mg_of X G aShape, kl_Shape := nlS, km_Shape := nmS, se_Shape := nsS, ne_Shape := nnS, gt_cls := ngS, tk_cls := ntS, ks_str := n1S, ks_tup := n2S, ks_non := n3S, no_Shape_flags := nShapeflags, no_Shape_table := nShapetable }
  have R : Prg K mg C_Shape := { is_word := d_is_word, are_words := d_are_words, has_names := d_has_names, is_named := d_is_named, wrong_part := d_wrong_part, are_lists := d_are_lists, are_list_shapes := d_are_list_shapes, list_rows := d_list_rows, are_fields := d_are_fields, Shape_init := d_Shape_init, Shape_eq := d_Shape_eq, _law_stream := d__law_stream, _law_draw := d__law_draw, _law_copy := d__law_copy, _law_turned := d__law_turned, _law_word := d__law_word, _law_names := d__law_names, _law_fields := d__law_fields, _law_lists := d__law_lists, _law_about := d__law_about, _law_without := d__law_without, _law_changed_list := d__law_changed_list, _law_changed := d__law_changed, law := d_law }
  exact main_ok T R hfa
theorem walk {l : PySem.W.OpenLaw} {q : Program} {loose : List Str} {XP : (Str → Option Value) → Heap → Prop} {YP : World → Heap → Prop} {d : DefRec} {K : Params → PySem.W.Frag} (hn : l.most = some 63) (hdf : d.params.defaults = [])
    (hY : ∀ (w : World) (h : Heap), YP w h → (K w.params).In h)
    (F : ∀ (w : World) (mg : Str → Option Value) (fa : Addr) (h : Heap), (K w.params).In h → h.Ns mainGlobals mg → mg d.name = some (.ref fa) →
      ∃ fd : FuncData, (∀ (s : Shared) (u : Value), BindsTo s fd ⟨[u], []⟩ [("_law_script", u)]) ∧ ∀ base : Heap, (K w.params).In base → base.Ns mainGlobals mg → FnOk l.prog w (K w.params) mg base CX0 60 fa fd ["_law_script"] (spLaw (K w.params))) :
    PySem.W.WalkO q loose XP YP l.row.toRowW d [] (fun f vs => PySem.call f vs) :=
  L2.walk_of (n := 63) (k := 60) (x := "_law_script") (CX := fun _ => CX0) (sp := fun w => spLaw (K w.params)) hn (by decide) hdf ⟨rfl, by decide, by decide⟩ hY F (fun _ _ a ns hl _ hS => ⟨a, ns, rfl, hS, hl, fun _ => rfl⟩) fun _ _ _ _ _ z => z
end Pk
open PySem PySem.W PyProof.Rows
set_option maxRecDepth 100000 in
set_option maxHeartbeats 0 in
theorem PySem.Challenge.cw_statestay_k03_shapes_equal_holds : PySem.Challenge.rw_statestay_k03_shapes_equal.Holds := by
  w_on; o_law; k_head; (case hw => w_witness2)
  k_fill
  refine Pk.walk (l := PySem.Challenge.rw_statestay_k03_shapes_equal) rfl rfl (fun w h Y => PySem.W.kIn_of Y) ?F
  case F =>
    intro w mg fa h KX G hmg
    refine' Pk.all_mk KX G hmg ?aShape ?pgShape ?hdShape ?poShape ?saShape ?mkShape ?kcShape ?nShapeflags ?nShapetable ?nlS ?nmS ?nsS ?nnS ?ngS ?ntS ?n1S ?n2S ?n3S ?z_all ?z_enumerate ?z_int ?z_str ?z_bool ?z_isinstance ?z_len ?z_list ?z_max ?z_range ?z_reversed ?z_sorted ?z_tuple ?z_set ?z_dict ?d_is_word ?d_are_words ?d_has_names ?d_is_named ?d_wrong_part ?d_are_lists ?d_are_list_shapes ?d_list_rows ?d_are_fields ?d_Shape_init ?d_Shape_eq ?d__law_stream ?d__law_draw ?d__law_copy ?d__law_turned ?d__law_word ?d__law_names ?d__law_fields ?d__law_lists ?d__law_about ?d__law_without ?d__law_changed_list ?d__law_changed ?d_law
    (case aShape => k_is)
    (case pgShape => k_is)
    (case hdShape => k_is)
    (case poShape => k_is)
    (case saShape => k_is)
    (case mkShape => k_is)
    (case kcShape => k_is)
    (case nShapeflags => k_is)
    (case nShapetable => k_is)
    (case nlS => k_is)
    (case nmS => k_is)
    (case nsS => kit_is)
    (case nnS => k_is)
    (case ngS => k_is)
    (case ntS => k_is)
    (case n1S => kit_is)
    (case n2S => kit_is)
    (case n3S => kit_is)
    (case z_all => k_is)
    (case z_enumerate => k_is)
    (case z_int => k_is)
    (case z_str => k_is)
    (case z_bool => k_is)
    (case z_isinstance => k_is)
    (case z_len => k_is)
    (case z_list => k_is)
    (case z_max => k_is)
    (case z_range => k_is)
    (case z_reversed => k_is)
    (case z_sorted => k_is)
    (case z_tuple => k_is)
    (case z_set => k_is)
    (case z_dict => k_is)
    (case d_is_word => (refine' Pk.here_mk KX G ?a ?l ?c ?k; (case a => k_is); (case l => k_is); (case c => k_is); (case k => k_is)))
    (case d_are_words => (refine' Pk.here_mk KX G ?a ?l ?c ?k; (case a => k_is); (case l => k_is); (case c => k_is); (case k => k_is)))
    (case d_has_names => (refine' Pk.here_mk KX G ?a ?l ?c ?k; (case a => k_is); (case l => k_is); (case c => k_is); (case k => k_is)))
    (case d_is_named => (refine' Pk.here_mk KX G ?a ?l ?c ?k; (case a => k_is); (case l => k_is); (case c => k_is); (case k => k_is)))
    (case d_wrong_part => (refine' Pk.here_mk KX G ?a ?l ?c ?k; (case a => k_is); (case l => k_is); (case c => k_is); (case k => k_is)))
    (case d_are_lists => (refine' Pk.here_mk KX G ?a ?l ?c ?k; (case a => k_is); (case l => k_is); (case c => k_is); (case k => k_is)))
    (case d_are_list_shapes => (refine' Pk.here_mk KX G ?a ?l ?c ?k; (case a => k_is); (case l => k_is); (case c => k_is); (case k => k_is)))
    (case d_list_rows => (refine' Pk.here_mk KX G ?a ?l ?c ?k; (case a => k_is); (case l => k_is); (case c => k_is); (case k => k_is)))
    (case d_are_fields => (refine' Pk.here_mk KX G ?a ?l ?c ?k; (case a => k_is); (case l => k_is); (case c => k_is); (case k => k_is)))
    (case d_Shape_init => (refine' Pk.hereM_mk ?a ?i ?l ?c ?k; (case a => k_is); (case i => k_is); (case l => k_is); (case c => k_is); (case k => k_is)))
    (case d_Shape_eq => (refine' Pk.hereM_mk ?a ?i ?l ?c ?k; (case a => k_is); (case i => k_is); (case l => k_is); (case c => k_is); (case k => k_is)))
    (case d__law_stream => (refine' Pk.here_mk KX G ?a ?l ?c ?k; (case a => k_is); (case l => k_is); (case c => k_is); (case k => k_is)))
    (case d__law_draw => (refine' Pk.here_mk KX G ?a ?l ?c ?k; (case a => k_is); (case l => k_is); (case c => k_is); (case k => k_is)))
    (case d__law_copy => (refine' Pk.here_mk KX G ?a ?l ?c ?k; (case a => k_is); (case l => k_is); (case c => k_is); (case k => k_is)))
    (case d__law_turned => (refine' Pk.here_mk KX G ?a ?l ?c ?k; (case a => k_is); (case l => k_is); (case c => k_is); (case k => k_is)))
    (case d__law_word => (refine' Pk.here_mk KX G ?a ?l ?c ?k; (case a => k_is); (case l => k_is); (case c => k_is); (case k => k_is)))
    (case d__law_names => (refine' Pk.here_mk KX G ?a ?l ?c ?k; (case a => k_is); (case l => k_is); (case c => k_is); (case k => k_is)))
    (case d__law_fields => (refine' Pk.here_mk KX G ?a ?l ?c ?k; (case a => k_is); (case l => k_is); (case c => k_is); (case k => k_is)))
    (case d__law_lists => (refine' Pk.here_mk KX G ?a ?l ?c ?k; (case a => k_is); (case l => k_is); (case c => k_is); (case k => k_is)))
    (case d__law_about => (refine' Pk.here_mk KX G ?a ?l ?c ?k; (case a => k_is); (case l => k_is); (case c => k_is); (case k => k_is)))
    (case d__law_without => (refine' Pk.here_mk KX G ?a ?l ?c ?k; (case a => k_is); (case l => k_is); (case c => k_is); (case k => k_is)))
    (case d__law_changed_list => (refine' Pk.here_mk KX G ?a ?l ?c ?k; (case a => k_is); (case l => k_is); (case c => k_is); (case k => k_is)))
    (case d__law_changed => (refine' Pk.here_mk KX G ?a ?l ?c ?k; (case a => k_is); (case l => k_is); (case c => k_is); (case k => k_is)))
    (case d_law => (refine' Pk.here_mk KX G ?a ?l ?c ?k; (case a => k_is); (case l => k_is); (case c => k_is); (case k => k_is)))
