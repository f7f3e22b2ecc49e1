import PyProof.Rows.All
import Wide.All
import OpenK.AllK
import Wide.FinOn
import KE.KExcInit
import KE.KExcIs
import KE.KExcLine
import KE.RegKIsAll
import KE.RegKTryMore
import HandS.ForMost
import HandS.Evl
import HandS.IsInst
import HandS.DictComp
import HandS.SetKeys
import HandS.Strs
import HandS.Wide
import HandS.Walk
import HandS.Conv
import HandS.More
import HandS.TupAny
import HandS.Rev
import HandS.SetBool
import HandS.Exc
import HandS.ExcInit
import HandS.ExcField
import HandS.CallSlots
import HandS.WordsExc
import PySem.Challenge.RW_statestay_k05_whole_wrong_data_found
set_option Elab.async false
set_option linter.all false
set_option maxRecDepth 100000
set_option maxHeartbeats 3100000
/-! Sets of texts of any size: set(xs) of a list or a tuple, and their length. -/
namespace Ssb
open PySem PySem.Spec PyProof.Rows L2

/-- acc and, behind it, what of the list was not met before -/
def met : List Str → List Str → List Str
  | acc, [] => acc
  | acc, x :: r => met (if x ∈ acc then acc else acc ++ [x]) r
theorem met_len : ∀ (l acc : List Str), (met acc l).length ≤ acc.length + l.length
  | [], acc => Nat.le_refl _
  | x :: r, acc => by
    have h := met_len r (if x ∈ acc then acc else acc ++ [x])
    show (met (if x ∈ acc then acc else acc ++ [x]) r).length ≤ acc.length + (r.length + 1)
    refine Nat.le_trans h ?_
    by_cases hx : x ∈ acc
    · rw [if_pos hx]; omega
    · rw [if_neg hx, List.length_append, List.length_singleton]; omega
theorem met_nodup : ∀ (l acc : List Str), (acc ++ l).Nodup → met acc l = acc ++ l
  | [], acc, _ => by rw [List.append_nil]; rfl
  | x :: r, acc, h => by
    have hx : ¬ x ∈ acc := fun hm => by
      have := (List.nodup_append.mp h).2.2 x hm x List.mem_cons_self
      exact this rfl
    show met (if x ∈ acc then acc else acc ++ [x]) r = acc ++ x :: r
    rw [if_neg hx, met_nodup r (acc ++ [x]) (by rw [List.append_assoc]; exact h), List.append_assoc]
    rfl
theorem met_in (acc : List Str) (x k : Str) : (decide (k ∈ acc) || decide (k = x)) = decide (k ∈ (if x ∈ acc then acc else acc ++ [x])) := by
  by_cases hx : x ∈ acc
  · rw [if_pos hx]
    by_cases e : k = x
    · rw [e, decide_eq_true hx]; rfl
    · rw [decide_eq_false e, Bool.or_false]
  · rw [if_neg hx]
    by_cases e : k = x
    · rw [e, decide_eq_true rfl, Bool.or_true, decide_eq_true (List.mem_append_right _ List.mem_cons_self)]
    · by_cases h2 : k ∈ acc
      · rw [decide_eq_true h2, decide_eq_true (List.mem_append_left _ h2)]; rfl
      · rw [decide_eq_false h2, decide_eq_false e, decide_eq_false]; rfl
        intro z
        rcases List.mem_append.mp z with z | z
        · exact h2 z
        · exact e (List.mem_singleton.mp z)
theorem met_size (acc : List Str) (x : Str) : (if decide (x ∈ acc) = true then acc.length else acc.length + 1) = (if x ∈ acc then acc else acc ++ [x]).length := by
  by_cases hx : x ∈ acc
  · rw [if_pos hx, decide_eq_true hx, if_pos rfl]
  · rw [if_neg hx, decide_eq_false hx, if_neg Bool.false_ne_true, List.length_append]; rfl
theorem cod_some {xs : List Str} {i : Nat} (h : i < xs.length) : xs.drop i = xs.getD i Str.empty :: xs.drop (i + 1) := by
  rw [List.drop_eq_getElem_cons h, List.getD_eq_getElem?_getD, List.getElem?_eq_getElem h, Option.getD_some]

section
variable {prog : Program} {w : World} {A : Around} {R : Result → Shared → Prop} {I S : Addr} {fp wr : List Addr} {G : Array GenState → Array GenState → Prop} {n : Nat} {P : Nat → Value → Prop} {St : Nat → Shared → Prop}
/-- set.update's own loop over texts -/
theorem upd_loop (W : WalksS prog w A.in1 I fp wr G n P St) (nS : S ∉ fp) {xs : List Str} (len : xs.length = n) (val : ∀ i v, P i v → ∃ t, v = .str (xs.getD i Str.empty) t) (few : n + 1 < scanBound) :
    ∀ (m i : Nat) (acc : List Str) (s : Shared), i + m = n → acc.length ≤ i → St i s → s.heap.SetOf (PySem.strKind prog w) S (fun k => decide (k ∈ acc)) acc.length →
      (∀ s2, Moved (S :: wr) G s s2 → s2.heap.SetOf (PySem.strKind prog w) S (fun k => decide (k ∈ met acc (xs.drop i))) (met acc (xs.drop i)).length → R (.ok (.ret .none)) s2) →
      codeAny (model prog w) A (.builtin "set.update.loop" ⟨[.ref S, .ref I], []⟩) R s := by
  have nw : S ∉ wr := fun hm => nS (W.sub S hm)
  have up : ∀ b, b ∈ wr → b ∈ S :: wr := fun b => List.mem_cons_of_mem S
  have stays : ∀ {s s2 : Shared} {T : Str → Bool} {c : Nat}, Moved wr G s s2 → s.heap.SetOf (PySem.strKind prog w) S T c → s2.heap.SetOf (PySem.strKind prog w) S T c := fun mv ⟨o, a1, a2, a3, q, r⟩ => ⟨o, a1, a2, a3, mv.heap S o nw q, r⟩
  intro m
  induction m with
  | zero =>
    intro i acc s e _ st so k
    obtain rfl : i = n := e
    refine codeAny_builtin PyProof.Rows.F.entry_set_update_loop ?_
    rw [Around.under_plainId PyProof.Rows.F.plain_set_update_loop]
    refine wpAny_bind (W.done s _ _ st fun s2 mv => wpAny_pure (k s2 (mv.mono up) ?_))
    rw [List.drop_of_length_le (Nat.le_of_eq len)]
    exact stays mv so
  | succ m ih =>
    intro i acc s e la st so k
    have lt : i < n := by omega
    refine codeAny_builtin PyProof.Rows.F.entry_set_update_loop ?_
    rw [Around.under_plainId PyProof.Rows.F.plain_set_update_loop]
    refine wpAny_bind (W.item i s _ _ lt st fun v s2 pv st2 mv => ?_)
    obtain ⟨t, rfl⟩ := val i v pv
    have so2 := stays mv so
    refine wpAny_bind (wpAny_holding ?_)
    unfold setAdd
    refine wpAny_holding (wpAny_bind ((PySem.strKind prog w).pyHash (k := xs.getD i Str.empty) (strKind_is _ _ _ _) ?_))
    refine wpAny_setAddHashed_of (knd := PySem.strKind prog w) (s := { s2 with toks := s2.toks + 1 }) (strKind_is _ _ _ _) rfl so2 (by omega) fun h3 sb so3 => ?_
    have out : ∀ b, b ≠ S → ∀ o, s2.heap.get? b = some o → h3.get? b = some o := fun b hb o q => (sb.2 b hb).trans q
    have so4 : h3.SetOf (PySem.strKind prog w) S (fun k' => decide (k' ∈ (if xs.getD i Str.empty ∈ acc then acc else acc ++ [xs.getD i Str.empty]))) (if xs.getD i Str.empty ∈ acc then acc else acc ++ [xs.getD i Str.empty]).length :=
      SetOf_congr so3 (fun k' => met_in _ _ _) (met_size _ _)
    have len4 : (if xs.getD i Str.empty ∈ acc then acc else acc ++ [xs.getD i Str.empty]).length ≤ i + 1 := by
      by_cases hx : xs.getD i Str.empty ∈ acc
      · rw [if_pos hx]; omega
      · rw [if_neg hx, List.length_append, List.length_singleton]; omega
    refine wpAny_pure ⟨plainId_quiet PyProof.Rows.F.plain_set_update_loop _, ih (i + 1) _ { s2 with heap := h3, toks := s2.toks + 1 } (by omega) len4 (W.frame _ s2 _ _ st2 (Nat.le_succ _) fun b hb o q => out b (fun z => nS (z ▸ hb)) o q) so4 fun s5 mv5 so5 => k s5 ?_ ?_⟩
    · exact Moved.trans W.gtrans ((mv.mono up).then_heap (Nat.le_succ _) fun b o hb q => out b (fun z => hb (z ▸ List.mem_cons_self)) o q) mv5
    · rw [cod_some (by omega)]
      exact so5
end

/-- what stands at the new set's place at first -/
abbrev bare (led : Bool) : Obj := { cls := .type "set", dict := none, data := .set #[] 0 (.fresh 0 0 led) }
section
variable {prog : Program} {w : World} {A : Around} {E : Value → Shared → Prop} {s : Shared} {src : Addr} {items : Array Value} {xs : List Str}
set_option maxHeartbeats 3200000 in
/-- set(list of texts) -/
theorem set_list {Q : Value → Shared → Prop} (calm : A.handled = none) (at_ : s.heap.IsList src items) (are : PyProof.Rows.StrsAre items.toList xs) (few : xs.length + 1 < scanBound)
    (k : ∀ (h2 : Heap) (tk : Nat), h2.SetOf (PySem.strKind prog w) s.heap.objs.size (fun k' => decide (k' ∈ met [] xs)) (met [] xs).length → (∀ b o, s.heap.get? b = some o → h2.get? b = some o) → Q (.ref s.heap.objs.size) { s with heap := h2, toks := tk }) :
    wpAny (model prog w) A (call (.type "set") [.ref src]) Q E s := by
  have m1 := PySem.F.called_set.mro
  obtain ⟨_, _, hm⟩ := m1
  have made := PySem.F.called_set.made
  have below := PySem.F.called_set.sub
  refine wpAny_call (codeAny_of_tree ?_)
  show wpAny _ _ (callAny (Value.type "set") ⟨[Value.ref src], []⟩) _ _ _
  refine wpAny_pure (And.intro (Code.quiet_builtin _ (by decide +kernel)) (codeAny_builtin PySem.F.entry_type_call ?_))
  rw [Around.under_plain (weight_type_call_type "set" [Value.ref src] []) rfl]
  have n1 := PySem.F.called_set.notType
  have n2 := PySem.F.called_set.canCreate
  have n3 := PySem.F.typeCall_set_1 (Value.ref src)
  repeat any_goals first | wp_step | assumption
  refine codeAny_mono (code_set_new_1 (Value.ref src) (E := E) (Q₁ := fun x s1 => ∃ led, x = .ref s.heap.objs.size ∧ s1 = { s with heap := s.heap.push (bare led) }) fun led => ⟨led, rfl, rfl⟩) fun r s1 back => ?_
  cases r with
  | error e => exact back
  | ok fl =>
    cases fl with
    | next => exact back.elim
    | brk => exact back.elim
    | cont => exact back.elim
    | ret x =>
      obtain ⟨led, rfl, rfl⟩ := back
      have gS : (s.heap.push (bare led)).get? s.heap.objs.size = some (bare led) := Heap.get?_push_size _ rfl
      have tS : Shared.TypeIs { s with heap := s.heap.push (bare led) } (.ref s.heap.objs.size) "set" := ⟨_, gS, rfl⟩
      have i1 := PySem.F.called_set.init.lookup
      have i2 := PySem.F.called_set.init.bind (.ref s.heap.objs.size)
      repeat any_goals first | wp_step | assumption
      refine codeAny_mono (codeAny_call_builtin (R := wants (fun r s2 => r = .none ∧ ∃ h2 tk, s2 = { s with heap := h2, toks := tk } ∧ h2.SetOf (PySem.strKind prog w) s.heap.objs.size (fun k' => decide (k' ∈ met [] xs)) (met [] xs).length ∧
        ∀ b o, s.heap.get? b = some o → h2.get? b = some o) E) PySem.F.called_set.init.plain PySem.F.entry_set_init (check_set_init_1 tS ?_)) fun r2 s2 back2 => ?_
      · obtain ⟨ol, gl, cl, nl, dl⟩ := at_
        obtain ⟨ocls, odict, odata, oslots⟩ := ol
        simp only at cl dl
        subst cl; subst dl
        have gl' : (s.heap.push (bare led)).get? src = some { cls := .type "list", dict := odict, data := .seq items nl, slots := oslots } := Heap.get?_push_of_some _ gl
        have u1 := PySem.F.sub_list_set
        have u2 := PySem.F.sub_list_frozenset
        have u3 : (Value.type "list" == Value.type "dict") = false := by decide
        have at2 : (s.heap.push (bare led)).IsList src items := ⟨_, gl', rfl, nl, rfl⟩
        unfold Builtin.«set.__init__» noKeywords Builtin.Frozenset.updateFrom
        generalize hide : pyIter = PI
        wp_walk
        subst hide
        refine wpAny_pyIter_list at2 (wpAny_bind (wpAny_runValue ?_))
        have small : src < s.heap.objs.size := Heap.lt_size gl
        have calm3 : A.in1.in1.in1.handled = none := by simp [calm]
        have z1 : (s.heap.push (bare led)).objs.size = s.heap.objs.size + 1 := Heap.size_push ..
        have d1 : src ≠ (s.heap.push (bare led)).objs.size := by rw [z1]; exact Nat.ne_of_lt (Nat.lt_succ_of_lt small)
        have d2 : s.heap.objs.size ∉ [(s.heap.push (bare led)).objs.size, src] := by
          rw [z1]
          intro hm2
          rcases List.mem_cons.mp hm2 with e | hm2
          · exact Nat.ne_of_lt (Nat.lt_succ_self _) e
          · exact Nat.ne_of_gt small (List.mem_singleton.mp hm2)
        have sz : xs.length = items.size := by rw [← StrsAre.len_eq are, Array.length_toList]
        have vals : ∀ (i : Nat) (v : Value), items[i]? = some v → ∃ t, v = .str (xs.getD i Str.empty) t := fun i v hv => SS.strs_at are i v (by rw [Array.getElem?_toList]; exact hv)
        refine upd_loop (S := s.heap.objs.size) ((Walks.list calm3 _ src d1 items).toS) d2 sz vals (by omega) items.size 0 [] _ (Nat.zero_add _) (Nat.le_refl _) ⟨⟨_, Heap.get?_push_size _ rfl, rfl, rfl⟩, (at2.push _)⟩ ?first ?last
        case first =>
          exact SetOf_congr ((setObjOf_fresh (knd := PySem.strKind prog w) led).setOf (Heap.get?_push_of_some _ gS) (by decide)) (fun _ => rfl) rfl
        case last =>
          intro s' mv so
          obtain ⟨h', g', d', tk', os'⟩ := s'
          obtain rfl : g' = s.gens := mv.gens
          obtain rfl : d' = s.drawn := mv.drawn
          obtain rfl : os' = s.os := mv.os
          refine wpAny_pure (wpAny_pure ⟨rfl, h', tk', rfl, so, fun b o q => ?_⟩)
          have lb : b < s.heap.objs.size := Heap.lt_size q
          refine mv.heap b o (fun hm2 => ?_) (Heap.get?_push_of_some _ (Heap.get?_push_of_some _ q))
          rcases List.mem_cons.mp hm2 with e | hm2
          · exact Nat.ne_of_lt lb e
          · have e2 := List.mem_singleton.mp hm2
            rw [z1] at e2
            exact Nat.ne_of_lt (Nat.lt_succ_of_lt lb) e2
      · cases r2 with
        | error e => exact back2
        | ok fl2 =>
          cases fl2 with
          | next => exact back2.elim
          | brk => exact back2.elim
          | cont => exact back2.elim
          | ret r =>
            obtain ⟨rfl, h2, tk, rfl, so, kp⟩ := back2
            repeat any_goals first | wp_step | assumption
            exact k _ _ so kp
set_option maxHeartbeats 3200000 in
/-- set(tuple of texts) -/
theorem set_tuple {Q : Value → Shared → Prop} (calm : A.handled = none) (at_ : s.heap.IsTuple src items) (are : PyProof.Rows.StrsAre items.toList xs) (few : xs.length + 1 < scanBound)
    (k : ∀ (h2 : Heap) (tk : Nat), h2.SetOf (PySem.strKind prog w) s.heap.objs.size (fun k' => decide (k' ∈ met [] xs)) (met [] xs).length → (∀ b o, s.heap.get? b = some o → h2.get? b = some o) → Q (.ref s.heap.objs.size) { s with heap := h2, toks := tk }) :
    wpAny (model prog w) A (call (.type "set") [.ref src]) Q E s := by
  have m1 := PySem.F.called_set.mro
  obtain ⟨_, _, hm⟩ := m1
  have made := PySem.F.called_set.made
  have below := PySem.F.called_set.sub
  refine wpAny_call (codeAny_of_tree ?_)
  show wpAny _ _ (callAny (Value.type "set") ⟨[Value.ref src], []⟩) _ _ _
  refine wpAny_pure (And.intro (Code.quiet_builtin _ (by decide +kernel)) (codeAny_builtin PySem.F.entry_type_call ?_))
  rw [Around.under_plain (weight_type_call_type "set" [Value.ref src] []) rfl]
  have n1 := PySem.F.called_set.notType
  have n2 := PySem.F.called_set.canCreate
  have n3 := PySem.F.typeCall_set_1 (Value.ref src)
  repeat any_goals first | wp_step | assumption
  refine codeAny_mono (code_set_new_1 (Value.ref src) (E := E) (Q₁ := fun x s1 => ∃ led, x = .ref s.heap.objs.size ∧ s1 = { s with heap := s.heap.push (bare led) }) fun led => ⟨led, rfl, rfl⟩) fun r s1 back => ?_
  cases r with
  | error e => exact back
  | ok fl =>
    cases fl with
    | next => exact back.elim
    | brk => exact back.elim
    | cont => exact back.elim
    | ret x =>
      obtain ⟨led, rfl, rfl⟩ := back
      have gS : (s.heap.push (bare led)).get? s.heap.objs.size = some (bare led) := Heap.get?_push_size _ rfl
      have tS : Shared.TypeIs { s with heap := s.heap.push (bare led) } (.ref s.heap.objs.size) "set" := ⟨_, gS, rfl⟩
      have i1 := PySem.F.called_set.init.lookup
      have i2 := PySem.F.called_set.init.bind (.ref s.heap.objs.size)
      repeat any_goals first | wp_step | assumption
      refine codeAny_mono (codeAny_call_builtin (R := wants (fun r s2 => r = .none ∧ ∃ h2 tk, s2 = { s with heap := h2, toks := tk } ∧ h2.SetOf (PySem.strKind prog w) s.heap.objs.size (fun k' => decide (k' ∈ met [] xs)) (met [] xs).length ∧
        ∀ b o, s.heap.get? b = some o → h2.get? b = some o) E) PySem.F.called_set.init.plain PySem.F.entry_set_init (check_set_init_1 tS ?_)) fun r2 s2 back2 => ?_
      · obtain ⟨ol, gl, cl, nl, dl⟩ := at_
        obtain ⟨ocls, odict, odata, oslots⟩ := ol
        simp only at cl dl
        subst cl; subst dl
        have gl' : (s.heap.push (bare led)).get? src = some { cls := .type "tuple", dict := odict, data := .seq items nl, slots := oslots } := Heap.get?_push_of_some _ gl
        have u1 := PySem.F.sub_tuple_set
        have u2 := PySem.F.sub_tuple_frozenset
        have u3 : (Value.type "tuple" == Value.type "dict") = false := by decide
        have at2 : (s.heap.push (bare led)).IsTuple src items := ⟨_, gl', rfl, nl, rfl⟩
        unfold Builtin.«set.__init__» noKeywords Builtin.Frozenset.updateFrom
        generalize hide : pyIter = PI
        wp_walk
        subst hide
        refine wpAny_pyIter_tuple at2 (wpAny_bind (wpAny_runValue ?_))
        have small : src < s.heap.objs.size := Heap.lt_size gl
        have calm3 : A.in1.in1.in1.handled = none := by simp [calm]
        have z1 : (s.heap.push (bare led)).objs.size = s.heap.objs.size + 1 := Heap.size_push ..
        have d1 : src ≠ (s.heap.push (bare led)).objs.size := by rw [z1]; exact Nat.ne_of_lt (Nat.lt_succ_of_lt small)
        have d2 : s.heap.objs.size ∉ [(s.heap.push (bare led)).objs.size, src] := by
          rw [z1]
          intro hm2
          rcases List.mem_cons.mp hm2 with e | hm2
          · exact Nat.ne_of_lt (Nat.lt_succ_self _) e
          · exact Nat.ne_of_gt small (List.mem_singleton.mp hm2)
        have sz : xs.length = items.size := by rw [← StrsAre.len_eq are, Array.length_toList]
        have vals : ∀ (i : Nat) (v : Value), items[i]? = some v → ∃ t, v = .str (xs.getD i Str.empty) t := fun i v hv => SS.strs_at are i v (by rw [Array.getElem?_toList]; exact hv)
        refine upd_loop (S := s.heap.objs.size) ((Walks.tuple calm3 _ src d1 items).toS) d2 sz vals (by omega) items.size 0 [] _ (Nat.zero_add _) (Nat.le_refl _) ⟨⟨_, Heap.get?_push_size _ rfl, rfl, rfl⟩, (at2.push _)⟩ ?first ?last
        case first =>
          exact SetOf_congr ((setObjOf_fresh (knd := PySem.strKind prog w) led).setOf (Heap.get?_push_of_some _ gS) (by decide)) (fun _ => rfl) rfl
        case last =>
          intro s' mv so
          obtain ⟨h', g', d', tk', os'⟩ := s'
          obtain rfl : g' = s.gens := mv.gens
          obtain rfl : d' = s.drawn := mv.drawn
          obtain rfl : os' = s.os := mv.os
          refine wpAny_pure (wpAny_pure ⟨rfl, h', tk', rfl, so, fun b o q => ?_⟩)
          have lb : b < s.heap.objs.size := Heap.lt_size q
          refine mv.heap b o (fun hm2 => ?_) (Heap.get?_push_of_some _ (Heap.get?_push_of_some _ q))
          rcases List.mem_cons.mp hm2 with e | hm2
          · exact Nat.ne_of_lt lb e
          · have e2 := List.mem_singleton.mp hm2
            rw [z1] at e2
            exact Nat.ne_of_lt (Nat.lt_succ_of_lt lb) e2
      · cases r2 with
        | error e => exact back2
        | ok fl2 =>
          cases fl2 with
          | next => exact back2.elim
          | brk => exact back2.elim
          | cont => exact back2.elim
          | ret r =>
            obtain ⟨rfl, h2, tk, rfl, so, kp⟩ := back2
            repeat any_goals first | wp_step | assumption
            exact k _ _ so kp
end
end Ssb

/-! Sets of texts as tracked things: set(xs), {text for ..}, their len. -/
namespace Ssb
open PySem PySem.Spec PyProof.Rows L2

/-- at a: the set of the texts of l -/
def Txs (P : Program) (w : World) (a : Addr) (l : List Str) : HO := .ext fun h => h.SetOf (PySem.strKind P w) a (fun k => decide (k ∈ l)) l.length
/-- l with x at its end, if it is not there -/
def put1 (l : List Str) (x : Str) : List Str := if x ∈ l then l else l ++ [x]
theorem put1_len (l : List Str) (x : Str) : (put1 l x).length ≤ l.length + 1 := by
  unfold put1
  by_cases h : x ∈ l
  · rw [if_pos h]; omega
  · rw [if_neg h, List.length_append]; exact Nat.le_refl _
section
variable {P : Program} {w : World} {X : Cx}
theorem txs_ok {H : Hp} {h : Heap} {a : Addr} {l : List Str} (r : h.SetOf (PySem.strKind P w) a (fun k => decide (k ∈ l)) l.length) : ObjOk P w H h a (Txs P w a l) := by
  refine ⟨r, ?_, fun g1 g2 p k => ?_⟩
  · obtain ⟨o, _, _, _, q, _⟩ := r; exact ⟨o, q⟩
  · obtain ⟨o, b1, b2, b3, q, r2⟩ := p; exact ⟨o, b1, b2, b3, k o q, r2⟩
theorem txs_at {pins : List (Addr × Obj)} {σ : L2.St} {H : Hp} {s : Shared} {a : Addr} {l : List Str} (I : Inv X pins σ H s) (e : H a = some (Txs X.prog X.w a l)) : s.heap.SetOf (PySem.strKind X.prog X.w) a (fun k => decide (k ∈ l)) l.length := by
  have z : ObjOk X.prog X.w H s.heap a (.ext fun h => h.SetOf (PySem.strKind X.prog X.w) a (fun k => decide (k ∈ l)) l.length) := I.hok a _ e
  exact z.1
/-- one text more -/
theorem txs_add {pins : List (Addr × Obj)} {σ : L2.St} {H : Hp} {s : Shared} {E : Value → Shared → Prop} {a : Addr} {l : List Str} {x : Str} {t : Tok} {Q : Value → Shared → Prop} (I : Inv X pins σ H s) (e : H a = some (Txs X.prog X.w a l)) (few : l.length + 1 < scanBound)
    (k : ∀ s2, Inv X pins σ (upd H a (Txs X.prog X.w a (put1 l x))) s2 → Q .none s2) : wpAny (model X.prog X.w) X.A (call (.builtin "set.add") [.ref a, .str x t]) Q E s := by
  refine PySem.call_set_add (knd := PySem.strKind X.prog X.w) (strKind_is _ _ _ _) rfl (txs_at I e) few fun h2 sb so => ?_
  have so2 : h2.SetOf (PySem.strKind X.prog X.w) a (fun k' => decide (k' ∈ put1 l x)) (put1 l x).length := SetOf_congr so (fun k' => met_in l x k') (met_size l x)
  have there : ∃ u, h2.get? a = some u := by
    obtain ⟨o, _, _, _, q, _⟩ := so2; exact ⟨o, q⟩
  exact k _ (I.write (t' := s.toks + 1) (x := a) (e := a) (by rw [e]; trivial) (.inl rfl) (fun b u hb q => (sb.2 b hb).trans q) there (txs_ok so2))

/-! ### set(xs) -/
def rSetS (K : PySem.W.Frag) (P : Program) (w : World) : List V → Hp → VK → Prop := fun vs H Q => ∃ (a : Addr) (xs : List Str), vs = [.ref a] ∧ (SqL K H a (xs.map V.str) ∨ SqT K H a (xs.map V.str)) ∧ xs.length + 1 < scanBound ∧
  ∀ p, H p = none → Q (.ref p) (upd H p (Txs P w p (met [] xs)))
theorem cr_setS (hc : X.calm = true) : CallR X (.type "set") (rSetS X.K X.prog X.w) := by
  intro pins s σ H vs us Q I r q
  obtain ⟨a, xs, rfl, sq, few, k⟩ := q
  rw [Vals.ref1 r]
  have new : H s.heap.objs.size = none := I.hok.fresh (Nat.le_refl _)
  have done : ∀ (h2 : Heap) (tk : Nat), h2.SetOf (PySem.strKind X.prog X.w) s.heap.objs.size (fun k' => decide (k' ∈ met [] xs)) (met [] xs).length → (∀ b o, s.heap.get? b = some o → h2.get? b = some o) → EP X pins σ Q (.ref s.heap.objs.size) { s with heap := h2, toks := tk } :=
    fun h2 tk so kp => ⟨.ref s.heap.objs.size, upd H s.heap.objs.size (Txs X.prog X.w s.heap.objs.size (met [] xs)), I.laid (t' := tk) kp (Nat.le_refl _) (txs_ok so), rfl, k _ new⟩
  rcases sq with sq | sq
  · obtain ⟨its, rv, pl, _⟩ := I.list sq
    exact set_list (I.ok.hd hc) pl.isList (by simpa using strsAre_of rv) few done
  · obtain ⟨its, rv, pl, _⟩ := I.tuple sq
    exact set_tuple (I.ok.hd hc) pl (by simpa using strsAre_of rv) few done
/-! ### len of it -/
def rLenTxs (P : Program) (w : World) : List V → Hp → VK → Prop := fun vs H Q => ∃ (a : Addr) (l : List Str), vs = [.ref a] ∧ H a = some (Txs P w a l) ∧ l.length < 1000000 ∧ Q (.int l.length) H
theorem call_lenTxs : CallR X (.builtin "len") (rLenTxs X.prog X.w) := by
  intro pins s σ H vs us Q I r q
  obtain ⟨a, l, rfl, e, few, k⟩ := q
  rw [Vals.ref1 r]
  obtain ⟨o, es, ep, t, ho, ex, dt, _, _, _, fits, n⟩ := txs_at I e
  refine PySem.call_len_set ho ex dt fits (by rw [n]; omega) ⟨.int l.length, H, I.tok _, ⟨_, by rw [n]⟩, k⟩
end

/-! ### {text for ..} -/
/-- the reading: D, the new set -/
def tTxs (P : Program) (w : World) (wi : TI) (g : TG) (tt : TT) (te : TE) (vs : List Nat) : TE := fun σ H Q => wi σ H fun J H1 => ∀ D, H1 D = none → ∃ W : Nat → Nat → Hp → Prop, (∃ m, W 0 m (upd H1 D (Txs P w D []))) ∧ ∀ i m H, W i m H →
  (J.stop i H ∧ Q (.ref D) H) ∨ (J.go i H ∧ ∃ Nx : Hp → Prop, (∀ H', Nx H' → ∃ m', m' < m ∧ W (i + 1) m' H') ∧ ∀ x H', J.yld i H x H' → g x (wipe σ vs) H' fun σ2 H2 => wipe σ2 vs = wipe σ vs ∧ tt σ2 H2 fun b H3 =>
    if b = true then te σ2 H3 fun y H4 => ∃ (z : Str) (l : List Str), y = .str z ∧ H4 D = some (Txs P w D l) ∧ l.length + 1 < scanBound ∧ Nx (upd H4 D (Txs P w D (put1 l z))) else Nx H3)
section
variable {X : Cx} {elt tg iter : Expr} {ifs : List Expr} {scope : Scope} {own : List (PySem.Str × Nat)} {pos pos' : Pos} {wi : TI} {g : TG} {tt : TT} {te : TE}
theorem pe_scT (hc : X.calm = true) (hN : X.N.Nodup) (hi : PI X tg iter wi) (ok : BlkOk X.N X.env.scope scope own)
    (hg : ∀ (u : Shared) (B : Hp) (C : Addr) (cl : List (PySem.Str × Addr)) (fp : List Addr), PG (X.blk u B scope (compEnvC scope cl C X.env) fp) tg g)
    (ht : ∀ (u : Shared) (B : Hp) (C : Addr) (cl : List (PySem.Str × Addr)) (fp : List Addr), PTs (X.blk u B scope (compEnvC scope cl C X.env) fp) ifs tt)
    (he : ∀ (u : Shared) (B : Hp) (C : Addr) (cl : List (PySem.Str × Addr)) (fp : List Addr), PE (X.blk u B scope (compEnvC scope cl C X.env) fp) elt te)
    (hf : ∀ x, foldedSetIterable iter X.env x = pure x := by intro _; rfl) :
    PE X (.SetComp elt [⟨tg, iter, ifs, 0⟩] scope pos) (tTxs X.prog X.w wi g tt te (own.map (·.2))) := by
  refine ⟨fun pins s σ H Q I red => ?_⟩
  rw [PpSet.eval_SetComp]
  have caught : ∀ y ∈ scope.names, y.2 = .free → ∃ c, X.env.cells.lookup y.1 = some c := fun y hy e => (ok.free y hy e).elim (fun k => I.ok.has _ (.inl k)) fun k => I.ok.has _ (.inr k)
  refine wpAny_comprehension_free rfl hf (closure_ok caught) ok.kind (fun y hy e => by rw [ok.uniq y hy, e]) (thn (hi.run pins s σ H _ I red) fun _ s1 r1 => thn r1 fun _ s2 r2 => ?_)
  obtain ⟨it, fp, at_, J, H2, rfl, I2, T, now, apart, rest⟩ := r2
  refine PpSet.newSet_ok (newEnv_comp ?_)
  have noD : H2 s2.heap.objs.size = none := I2.hok.fresh (Nat.le_refl _)
  obtain ⟨W, ⟨m0, w0⟩, turn⟩ := rest _ noD
  generalize eD : s2.heap.objs.size = D at noD w0 turn ⊢
  generalize e3 : ({ s2 with heap := s2.heap.push (bare (!X.w.params.followText "set-order")) } : Shared) = s3
  have g3 : s3.heap = s2.heap.push (bare (!X.w.params.followText "set-order")) := by rw [← e3]
  generalize eH3 : upd H2 D (Txs X.prog X.w D []) = H3 at w0
  have I3 : Inv X pins σ H3 s3 := by
    rw [← e3, ← eH3]
    refine I2.laid (t' := s2.toks) (fun b o q => Heap.get?_push_of_some _ q) (Nat.le_of_eq eD) (txs_ok ?_)
    rw [← eD]
    exact SetOf_congr ((setObjOf_fresh (knd := PySem.strKind X.prog X.w) _).setOf (Heap.get?_push_size _ rfl) (by decide)) (fun _ => rfl) rfl
  have low : ∀ b ∈ fp, b < s2.heap.objs.size := fun b hb => by
    obtain ⟨o, q, _⟩ := T.obj _ _ now b hb; exact Heap.lt_size q
  have fp3 : ∀ b ∈ fp, FpOk X pins H3 b ∧ b < s3.heap.objs.size := fun b hb => by
    refine ⟨⟨?_, (apart b hb).2⟩, by rw [g3, Heap.size_push]; exact Nat.lt_succ_of_lt (low b hb)⟩
    rw [← eH3, upd_ne (by rw [← eD]; exact Nat.ne_of_lt (low b hb))]
    exact (apart b hb).1
  have now3 : at_ 0 s3.heap := T.keep _ _ _ now fun b _ o q => by rw [g3]; exact Heap.get?_push_of_some _ q
  have B4 := block_start I3 ok hN fp3
  generalize eC : compEnvC scope (cellsFrom (s3.heap.objs.size + 1) scope.names (cloFrom X.env.cells scope.names [])) s3.heap.objs.size X.env = ce at B4
  have pG : PG (X.blk s3 H3 scope ce fp) tg g := by rw [← eC]; exact hg _ _ _ _ _
  have pT : PTs (X.blk s3 H3 scope ce fp) ifs tt := by rw [← eC]; exact ht _ _ _ _ _
  have pE : PE (X.blk s3 H3 scope ce fp) elt te := by rw [← eC]; exact he _ _ _ _ _
  have eL : ce.locals = s3.heap.objs.size := by rw [← eC]; rfl
  have fpN : ∀ b ∈ fp, H3 b = none := fun b hb => (fp3 b hb).1.1
  generalize e4 : ({ s3 with heap := pushCells (s3.heap.push { cls := .type "dict", data := .dict #[] }) scope.names } : Shared) = s4 at B4
  have now4 : at_ 0 s4.heap := T.keep _ _ _ now3 fun b _ o q => by rw [← e4]; exact pushCells_keeps _ _ _ _ (Heap.get?_push_of_some _ q)
  show codeAny _ _ (.compStart (.SetComp elt [⟨tg, iter, ifs, 0⟩] scope pos) 0 (.ref it) (.ref D) (compEnvC scope (cellsFrom (s3.heap.objs.size + 1) scope.names (cloFrom X.env.cells scope.names [])) s3.heap.objs.size X.env)) (compPost _ _ _ none _ (.ref D) s3.heap.objs.size) s4
  rw [eC]
  have fpOk : ∀ {σ' : L2.St} {H' : Hp} {s' : Shared}, Inv (X.blk s3 H3 scope ce fp) [] σ' H' s' → (∀ b ∈ fp, H' b = none) → ∀ b ∈ fp, FpOk (X.blk s3 H3 scope ce fp) [] H' b := fun {_ _ _} J' no b hb =>
    ⟨no b hb, (J'.ok.exf b hb).1, J'.ok.exfs b hb, .inl hb, fun x c q => (J'.ok.exf b hb).2 x c q, fun p hp => nomatch (show p ∈ ([] : List (Addr × Obj)) from hp)⟩
  refine PpSet.codeAny_compStart_set ?_ (T.self X.A 0 _ _ _ now4 ?_)
  all_goals
    refine PpSet.compLoopS_any (fun m u => ∃ i G, Inv (X.blk s3 H3 scope ce fp) [] (wipe σ (own.map (·.2))) G u ∧ at_ i u.heap ∧ (∀ b ∈ fp, G b = none) ∧ W i m G) ?_ m0 ⟨0, H3, B4, now4, fpN, w0⟩
    rintro m u ⟨i, G, B5, now5, no5, w5⟩
    rcases turn i m G w5 with ⟨stop, fin⟩ | ⟨go, Nx, less, step⟩
    · refine thnF (T.done (X.blk s3 H3 scope ce fp) rfl rfl rfl hc i [] u _ G (fun _ _ => False) B5 (fpOk B5 no5) now5 stop) fun r s6 ⟨er, B6⟩ => ?_
      subst er
      have I7 : Inv X pins σ G s6 := I3.call' (ch := fp) B6.os B6.base B6.hok B6.bare fun b hb => ⟨(fp3 b hb).1.2.2.2.1, (fp3 b hb).1.2.1, (fp3 b hb).1.2.2.2.2.1, (fp3 b hb).1.2.2.2.2.2⟩
      obtain ⟨mm, ns, _⟩ := B6.loc
      have ns : s6.heap.Ns ce.locals mm := ns
      have noC : G ce.locals = none := B6.free
      rw [eL] at ns noC
      obtain ⟨f0, f1, f2, f3, f4, f5⟩ := I3.fpOk (Nat.le_refl _) noC
      exact ⟨mm, ns, fun h'' sb => ⟨.ref D, G, I7.turned (t' := s6.toks) (fun b o hb q => (sb.2 b hb).trans q) f0 f1 f3 f4 f5, rfl, fin⟩⟩
    · refine thnF (T.item (X.blk s3 H3 scope ce fp) rfl rfl rfl hc i [] u _ G (fun _ _ => False) B5 (fpOk B5 no5) now5 go) fun r s6 ⟨v, er, r6⟩ => ?_
      subst er
      refine thnF r6 fun _ s7 ⟨x, G7, B7, rx, y7, now7, no7⟩ => ?_
      refine thnF (pG.run _ s7 _ G7 x v _ (B7.pinned (fpOk B7 no7) (T.obj _ _ now7)) rx (step x G7 y7)) fun _ s8 ⟨σ8, G8, B8, wp8, q8⟩ => ?_
      refine thnF (pT.run _ s8 σ8 G8 _ B8 q8) fun b s9 ⟨G9, B9, q9⟩ => ?_
      have close : ∀ {u' : Shared} {G' : Hp}, Inv (X.blk s3 H3 scope ce fp) ([] ++ pinsAt fp s7.heap) σ8 G' u' → Nx G' → ∃ m', m' < m ∧ ∃ i' G2, Inv (X.blk s3 H3 scope ce fp) [] (wipe σ (own.map (·.2))) G2 u' ∧ at_ i' u'.heap ∧ (∀ b ∈ fp, G2 b = none) ∧ W i' m' G2 := fun {u' G'} B' nx => by
        obtain ⟨m', lt, w'⟩ := less G' nx
        have held : ∀ b ∈ fp, ∀ o, s7.heap.get? b = some o → u'.heap.get? b = some o ∧ G' b = none := fun b hb o q =>
          ⟨(B'.pin (b, o) (List.mem_append_right _ (List.mem_append_right _ (mem_pinsAt hb q)))).1, (B'.pin (b, o) (List.mem_append_right _ (List.mem_append_right _ (mem_pinsAt hb q)))).2.1⟩
        refine ⟨m', lt, i + 1, G', (B'.unpinned (pins := [])).weak (by rw [← wp8, wipe_length]) (fun j z e => (wipe_some (by rw [wp8]; exact e)).1), T.keep _ _ _ now7 fun b hb o q => (held b hb o q).1, fun b hb => ?_, w'⟩
        obtain ⟨o, q, _⟩ := T.obj _ _ now7 b hb
        exact (held b hb o q).2
      cases b with
      | false =>
        simp only [Bool.false_eq_true, if_false] at q9 ⊢
        exact close B9 q9
      | true =>
        simp only [if_true] at q9 ⊢
        refine thnF (pE.run _ s9 σ8 G9 _ B9 q9) fun z s10 ⟨yv, G10, B10, r10, tx, l0, ey, at10, few, nx⟩ => ?_
        subst ey
        obtain ⟨tk, rfl⟩ := (show ∃ t, z = Value.str tx t from r10)
        exact txs_add (X := X.blk s3 H3 scope ce fp) B10 at10 few fun s11 B11 => close B11 nx
end
end Ssb

/-! Words: a def and its promise in one; data on the heap; loops over dicts. -/
namespace Ssb
open PySem PySem.Spec PyProof.Rows L2
open Evl (Ex Ev EvT EvL EvA EvU)

/-! ### a def of the module, a method of a class, and its promise -/
structure Fn (P : Program) (w : World) (K : PySem.W.Frag) (mg : Str → Option Value) (base : Heap) (nm : Str) (k : Nat) (ps : List Str) (sp : Sp) (f : Addr) (fd : FuncData) : Prop where
  ok : FnOk P w K mg base CX0 k f fd ps sp
  at_ : mg nm = some (.ref f)
  kp : PySem.W.keepIn K (.ref f) = true
  bd : Binds K fd ps []
structure Mt (P : Program) (w : World) (K : PySem.W.Frag) (mg : Str → Option Value) (base : Heap) (C : Addr) (nm : Str) (k : Nat) (ps : List Str) (sp : Sp) (f : Addr) (fd : FuncData) : Prop where
  ok : FnOk P w K mg base CX0 k f fd ps sp
  mt : Meth K C nm f
  bd : Binds K fd ps []
section
variable {X : Cx} {nm : Str} {k j : Nat} {ps : List Str} {sp : Sp} {f : Addr} {fd : FuncData} {p pos : Pos} {e : Expr} {es : List Expr} {t : TA}
theorem pcl (G : Fn X.prog X.w X.K X.mg X.base nm k ps sp f fd) (hr : Room j X.A) (ha : PA X (e :: es) t) (hj : k ≤ j := by first | decide | omega) (hg : Gl X nm := by rfl) (hdb : (nm == ("__debug__" : Str)) = false := by decide)
    (he : starEach (e :: es) X.env = (false, eval e X.env) :: starEach es X.env := by rfl) (hpl : (backTo pos (starEach es X.env)).any (·.1) = false := by rfl) : PE X (.Call (.Name nm p) (e :: es) [] pos) (tCall sp [] E0 t) :=
  pe_call G.ok (hr.mono hj) hg G.at_ G.kp G.bd .nil pass0 ha hdb he hpl
variable {o : Expr} {ta : TE} {apos : Pos} {C : Addr} {pl : Sem Bool}
theorem pmt (ho : PE X o ta) (c : Cls X.K C) (G : Mt X.prog X.w X.K X.mg X.base C nm k ps sp f fd) (hr : Room j X.A) (ha : PA X (e :: es) t) (hj : k ≤ j := by first | decide | omega)
    (he : starEach (e :: es) X.env = (false, eval e X.env) :: starEach es X.env := by rfl) (hpl : (backTo pos (starEach es X.env)).any (·.1) = false := by rfl)
    (ht : eval (.Call (.Attribute o nm apos) (e :: es) [] pos) X.env = (do
      let ov ← eval o X.env
      standAt apos.atName
      let (f, first) ← holding [ov] (getMethod ov nm pl)
      callWith pos f first (backTo pos (starEach (e :: es) X.env)) (backToKw pos (keywordEach [] X.env))) := by rfl) : PE X (.Call (.Attribute o nm apos) (e :: es) [] pos) (tMeth C nm sp [] E0 ta t) :=
  pe_meth ho c G.mt G.ok (hr.mono hj) G.bd .nil pass0 ha he hpl ht
theorem pmt0 (ho : PE X o ta) (c : Cls X.K C) (G : Mt X.prog X.w X.K X.mg X.base C nm k ps sp f fd) (hr : Room j X.A) (hj : k ≤ j := by first | decide | omega)
    (ht : eval (.Call (.Attribute o nm apos) [] [] pos) X.env = (do
      let ov ← eval o X.env
      standAt apos.atName
      let (f, first) ← holding [ov] (getMethod ov nm pl)
      callWith pos f first (backTo pos (starEach [] X.env)) (backToKw pos (keywordEach [] X.env))) := by rfl) : PE X (.Call (.Attribute o nm apos) [] [] pos) (tMeth C nm sp [] E0 ta tNil) :=
  pe_meth0 ho c G.mt G.ok (hr.mono hj) G.bd .nil pass0 ht
/-- a test that is never asked -/
def tNeverT : TT := fun _ _ _ => False
theorem pt_unseen : PT X e tNeverT := ⟨fun _ _ _ _ _ _ h => h.elim⟩
def tNeverE : TE := fun _ _ _ => False
theorem pe_unseen : PE X e tNeverE := ⟨fun _ _ _ _ _ _ h => h.elim⟩
end

/-! ### data, as they stand on the heap: lists and dicts at places of S, a dict never within itself -/
inductive D where
  | non | bl (b : Bool) | int (i : Int) | str (s : Str) | lst (l : List D) | tup (l : List D) | dic (l : List (Str × D))
def Rep (H : Hp) : Nat → (Addr → Prop) → D → V → Prop
  | 0, _, _, _ => False
  | _ + 1, _, .non, v => v = .non
  | _ + 1, _, .bl b, v => v = .bl b
  | _ + 1, _, .int i, v => v = .int i
  | _ + 1, _, .str s, v => v = .str s
  | n + 1, S, .lst l, v => ∃ a xs, v = .ref a ∧ S a ∧ H a = some (.lst xs) ∧ l.length ≤ 100000 ∧ Paired (fun d x => Rep H n S d x) l xs
  | n + 1, S, .tup l, v => ∃ a xs, v = .ref a ∧ H a = some (.tup xs) ∧ l.length ≤ 100000 ∧ Paired (fun d x => Rep H n S d x) l xs
  | n + 1, S, .dic l, v => ∃ a es, v = .ref a ∧ S a ∧ H a = some (.dK es) ∧ l.length ≤ 100000 ∧ Paired (fun (q : Str × D) (e : Key × V) => e.1 = Sum.inr q.1 ∧ Rep H n (fun b => S b ∧ b ≠ a) q.2 e.2) l es
theorem pair_imp {α β : Type} {F G : α → β → Prop} : ∀ {l : List α} {m : List β}, Paired F l m → (∀ a b, F a b → G a b) → Paired G l m
  | _, _, .nil, _ => .nil
  | _, _, .cons h t, k => .cons (k _ _ h) (pair_imp t k)
theorem pair_len {α β : Type} {F : α → β → Prop} : ∀ {l : List α} {m : List β}, Paired F l m → l.length = m.length
  | _, _, .nil => rfl
  | _, _, .cons _ t => congrArg (· + 1) (pair_len t)
theorem pair_at {α β : Type} {F : α → β → Prop} : ∀ {l : List α} {m : List β} {i : Nat} {a : α}, Paired F l m → l[i]? = some a → ∃ b, m[i]? = some b ∧ F a b
  | _, _, _, _, .nil, e => by simp at e
  | _, _, 0, _, .cons h _, e => by
    simp at e; subst e; exact ⟨_, rfl, h⟩
  | _, _, i + 1, _, .cons _ t, e => by
    obtain ⟨b, h1, h2⟩ := pair_at (i := i) t (by simpa using e)
    exact ⟨b, by simpa using h1, h2⟩
theorem pair_back {α β : Type} {F : α → β → Prop} : ∀ {l : List α} {m : List β} {i : Nat} {b : β}, Paired F l m → m[i]? = some b → ∃ a, l[i]? = some a ∧ F a b
  | _, _, _, _, .nil, e => by simp at e
  | _, _, 0, _, .cons h _, e => by
    simp at e; subst e; exact ⟨_, rfl, h⟩
  | _, _, i + 1, _, .cons _ t, e => by
    obtain ⟨b, h1, h2⟩ := pair_back (i := i) t (by simpa using e)
    exact ⟨b, by simpa using h1, h2⟩
theorem pair_app {α β : Type} {F : α → β → Prop} : ∀ {l l' : List α} {m m' : List β}, Paired F l m → Paired F l' m' → Paired F (l ++ l') (m ++ m')
  | _, _, _, _, .nil, t => t
  | _, _, _, _, .cons h r, t => .cons h (pair_app r t)
theorem pair_snoc {α β : Type} {F : α → β → Prop} {l : List α} {m : List β} {a : α} {b : β} (p : Paired F l m) (h : F a b) : Paired F (l ++ [a]) (m ++ [b]) := pair_app p (.cons h .nil)
/-- what is told at the places of S (and of tuples) is all that counts -/
theorem rep_to {H H' : Hp} : ∀ {n : Nat} {S : Addr → Prop} {d : D} {v : V}, (∀ b o, H b = some o → (S b ∨ ∃ xs, o = .tup xs) → H' b = some o) → Rep H n S d v → Rep H' n S d v
  | 0, _, _, _, _, h => h.elim
  | n + 1, S, d, v, k, h => by
    cases d with
    | non => exact h
    | bl b => exact h
    | int i => exact h
    | str s => exact h
    | lst l =>
      obtain ⟨a, xs, e, s, ha, hl, p⟩ := h
      exact ⟨a, xs, e, s, k a _ ha (.inl s), hl, pair_imp p fun d x r => rep_to k r⟩
    | tup l =>
      obtain ⟨a, xs, e, ha, hl, p⟩ := h
      exact ⟨a, xs, e, k a _ ha (.inr ⟨xs, rfl⟩), hl, pair_imp p fun d x r => rep_to k r⟩
    | dic l =>
      obtain ⟨a, es, e, s, ha, hl, p⟩ := h
      exact ⟨a, es, e, s, k a _ ha (.inl s), hl, pair_imp p fun q x r => ⟨r.1, rep_to (fun b o hb z => k b o hb (z.imp (·.1) id)) r.2⟩⟩
theorem rep_ex {H H' : Hp} {n : Nat} {S : Addr → Prop} {d : D} {v : V} (e : Ex H H') (h : Rep H n S d v) : Rep H' n S d v := rep_to (fun b o hb _ => e b o hb) h
theorem rep_S {H : Hp} : ∀ {n : Nat} {S S' : Addr → Prop} {d : D} {v : V}, (∀ b, S b → S' b) → Rep H n S d v → Rep H n S' d v
  | 0, _, _, _, _, _, h => h.elim
  | n + 1, S, S', d, v, k, h => by
    cases d with
    | non => exact h
    | bl b => exact h
    | int i => exact h
    | str s => exact h
    | lst l =>
      obtain ⟨a, xs, e, s, ha, hl, p⟩ := h
      exact ⟨a, xs, e, k a s, ha, hl, pair_imp p fun d x r => rep_S k r⟩
    | tup l =>
      obtain ⟨a, xs, e, ha, hl, p⟩ := h
      exact ⟨a, xs, e, ha, hl, pair_imp p fun d x r => rep_S k r⟩
    | dic l =>
      obtain ⟨a, es, e, s, ha, hl, p⟩ := h
      exact ⟨a, es, e, k a s, ha, hl, pair_imp p fun q x r => ⟨r.1, rep_S (fun b z => ⟨k b z.1, z.2⟩) r.2⟩⟩
theorem rep_up {H : Hp} : ∀ {n : Nat} {S : Addr → Prop} {d : D} {v : V}, Rep H n S d v → Rep H (n + 1) S d v
  | 0, _, _, _, h => h.elim
  | n + 1, S, d, v, h => by
    cases d with
    | non => exact h
    | bl b => exact h
    | int i => exact h
    | str s => exact h
    | lst l =>
      obtain ⟨a, xs, e, s, ha, hl, p⟩ := h
      exact ⟨a, xs, e, s, ha, hl, pair_imp p fun d x r => rep_up r⟩
    | tup l =>
      obtain ⟨a, xs, e, ha, hl, p⟩ := h
      exact ⟨a, xs, e, ha, hl, pair_imp p fun d x r => rep_up r⟩
    | dic l =>
      obtain ⟨a, es, e, s, ha, hl, p⟩ := h
      exact ⟨a, es, e, s, ha, hl, pair_imp p fun q x r => ⟨r.1, rep_up r.2⟩⟩
/-- behind a lock of a, which S does not hold -/
theorem rep_lock {H : Hp} {n : Nat} {S : Addr → Prop} {d : D} {v : V} {a : Addr} {es : List (Key × V)} {u : HO} (ha : H a = some (.dK es)) (hS : ∀ b, S b → b ≠ a) (h : Rep H n S d v) : Rep (upd H a u) n S d v :=
  rep_to (fun b o hb z => by
    have ne : b ≠ a := by
      rcases z with z | ⟨xs, rfl⟩
      · exact hS b z
      · intro e; rw [e, ha] at hb; cases hb
    rw [upd_ne ne]; exact hb) h

/-! ### what a dict tells -/
theorem lk_cons {α : Type} (k j : Str) (d : α) (l : List (Str × α)) : List.lookup k ((j, d) :: l) = if k = j then some d else List.lookup k l := by
  by_cases h : k = j
  · subst h; simp [List.lookup]
  · have e : (k == j) = false := by simpa using h
    rw [if_neg h]; simp [List.lookup, e]
theorem vV_cons (k : Key) (e : Key × V) (l : List (Key × V)) : valV (e :: l) k = if e.1 = k then some e.2 else valV l k := by
  unfold valV
  rw [List.find?_cons]
  by_cases h : e.1 = k
  · rw [decide_eq_true h, if_pos h]; rfl
  · rw [decide_eq_false h, if_neg h]
theorem pair_lk {F : D → V → Prop} : ∀ {l : List (Str × D)} {es : List (Key × V)}, Paired (fun (q : Str × D) (e : Key × V) => e.1 = Sum.inr q.1 ∧ F q.2 e.2) l es → ∀ {k : Str} {d : D}, l.lookup k = some d → ∃ v, valV es (Sum.inr k : Key) = some v ∧ F d v
  | _, _, .nil, k, d, h => by simp [List.lookup] at h
  | (j, d0) :: l, e :: es, .cons h t, k, d, hk => by
    rw [lk_cons] at hk
    rw [vV_cons]
    by_cases c : k = j
    · rw [if_pos c] at hk
      cases hk
      exact ⟨e.2, by rw [if_pos (by rw [h.1, c])], h.2⟩
    · rw [if_neg c] at hk
      obtain ⟨v, h1, h2⟩ := pair_lk t hk
      exact ⟨v, by rw [if_neg (by rw [h.1]; intro z; exact c (Sum.inr.inj z).symm)]; exact h1, h2⟩
theorem pair_no {F : D → V → Prop} : ∀ {l : List (Str × D)} {es : List (Key × V)}, Paired (fun (q : Str × D) (e : Key × V) => e.1 = Sum.inr q.1 ∧ F q.2 e.2) l es → ∀ {k : Str}, l.lookup k = none → valV es (Sum.inr k : Key) = none
  | _, _, .nil, k, h => rfl
  | (j, d0) :: l, e :: es, .cons h t, k, hk => by
    rw [lk_cons] at hk
    rw [vV_cons]
    by_cases c : k = j
    · rw [if_pos c] at hk; cases hk
    · rw [if_neg c] at hk
      rw [if_neg (by rw [h.1]; intro z; exact c (Sum.inr.inj z).symm)]
      exact pair_no t hk

/-! ### expressions that only make objects -/
/-- te gives a v of which P holds (P stays when objects are made) -/
def EvP (te : TE) (σ : L2.St) (H : Hp) (P : V → Hp → Prop) : Prop := ∀ H1, Ex H H1 → ∀ Q : VK, (∀ v H2, Ex H1 H2 → P v H2 → Q v H2) → te σ H1 Q
section
variable {K : PySem.W.Frag} {σ : L2.St} {H H' : Hp} {te ta tb tc : TE} {v x y z : V} {t u : TT}
theorem Ev.p {P : V → Hp → Prop} (h : Ev te σ H v) (hp : ∀ H1, Ex H H1 → P v H1) : EvP te σ H P := fun H1 e Q q => h H1 e Q fun H2 e2 => q v H2 e2 (hp H2 (e.trans e2))
theorem ev_chain {r r' : R2} {b1 b2 : Bool} (ha : Ev ta σ H x) (hb : Ev tb σ H y) (hc : Ev tc σ H z) (h1 : Evl.RV r x y H (.bl b1)) (h2 : Evl.RV r' y z H (.bl b2)) : Ev (tChain r r' ta tb tc) σ H (.bl (b1 && b2)) := fun H1 e Q q =>
  ha H1 e _ fun H2 e2 => hb H2 (e.trans e2) _ fun H3 e3 => h1 H3 ((e.trans e2).trans e3) _ fun H4 e4 => ⟨b1, rfl, by
    cases b1 with
    | true => exact hc H4 (((e.trans e2).trans e3).trans e4) _ fun H5 e5 => h2 H5 ((((e.trans e2).trans e3).trans e4).trans e5) Q fun H6 e6 => q H6 ((((e2.trans e3).trans e4).trans e5).trans e6)
    | false => exact q H4 ((e2.trans e3).trans e4)⟩
theorem ev_isi {n : String} {ty : Value} {b : Bool} (h : Ev te σ H x) (hty : ∀ H1, Ex H H1 → TyX K H1 x ty) (hk : PySem.W.kitOne K ty (.type n) = some b) : Ev (tCB (rIsi K) (tCons te (tCons (tC (.ty n)) tNil))) σ H (.bl b) := fun H1 e Q q =>
  h H1 e _ fun H2 e2 => ⟨x, .ty n, ty, .type n, b, rfl, .ty n, hty H2 (e.trans e2), hk, q H2 e2⟩
theorem ev_isi2 {n m : String} {ty : Value} {b : Bool} (h : Ev te σ H x) (hty : ∀ H1, Ex H H1 → TyX K H1 x ty) (hk : PySem.W.kitAny K ty [.type n, .type m] = some b) :
    Ev (tCB (rIsiT K) (tCons te (tCons (tTup (tCons (tC (.ty n)) (tCons (tC (.ty m)) tNil))) tNil))) σ H (.bl b) := fun H1 e Q q =>
  h H1 e _ fun H2 e2 => ⟨(by show 2 ≤ sizeLine; decide), fun p hp => ⟨x, p, [.ty n, .ty m], ty, [.type n, .type m], b, rfl, upd_same, .cons (.ty n) (.cons (.ty m) .nil), hty _ ((e.trans e2).trans (Ex.new hp)), hk, q _ (e2.trans (Ex.new hp))⟩⟩
theorem ev_all {bs : List Bool} (h : EvL te σ H (bs.map V.bl)) : Ev (tCB (rAll K) (tCons te tNil)) σ H (.bl (bs.all id)) := fun H1 e Q q =>
  h H1 e _ fun p H2 _ e2 hp => ⟨p, bs, rfl, Evl.sq_of hp, q H2 e2⟩
theorem ev_lenS {s : Str} (h : Ev te σ H (.str s)) (hs : s.length ≤ 100000) : Ev (tCB (fun xs H Q => ∃ x n, xs = [x] ∧ LenV K x H n ∧ Q (.int n) H) (tCons te tNil)) σ H (.int (s.length : Int)) := fun H1 e Q q =>
  h H1 e _ fun H2 e2 => ⟨.str s, s.length, rfl, ⟨Evl.sz_of hs, rfl⟩, q H2 e2⟩
theorem ev_lenL {a : Addr} {xs : List V} (h : Ev te σ H (.ref a)) (hx : SqL K H a xs ∨ SqT K H a xs) : Ev (tCB (fun xs H Q => ∃ x n, xs = [x] ∧ LenV K x H n ∧ Q (.int n) H) (tCons te tNil)) σ H (.int (xs.length : Int)) := fun H1 e Q q =>
  h H1 e _ fun H2 e2 => ⟨.ref a, xs.length, rfl, hx.imp (fun z => ⟨xs, Evl.ex_l (e.trans e2) z, rfl⟩) fun z => ⟨xs, Evl.ex_t (e.trans e2) z, rfl⟩, q H2 e2⟩
theorem ev_lenK {a : Addr} {es : List (Key × V)} (h : Ev te σ H (.ref a)) (hx : H a = some (.dK es)) : Ev (tCB (fun xs H Q => ∃ a kvs, xs = [V.ref a] ∧ H a = some (.dK kvs) ∧ Q (.int kvs.length) H) (tCons te tNil)) σ H (.int (es.length : Int)) := fun H1 e Q q =>
  h H1 e _ fun H2 e2 => ⟨a, es, rfl, (e.trans e2) a _ hx, q H2 e2⟩
theorem ev_lenSet {P : Program} {w : World} {a : Addr} {l : List Str} (h : Ev te σ H (.ref a)) (hx : SqL K H a (l.map V.str) ∨ SqT K H a (l.map V.str)) (few : l.length ≤ 1000) :
    Ev (tCB (rLenTxs P w) (tCons (tCB (rSetS K P w) (tCons te tNil)) tNil)) σ H (.int ((met [] l).length : Int)) := fun H1 e Q q =>
  h H1 e _ fun H2 e2 => ⟨a, l, rfl, hx.imp (Evl.ex_l (e.trans e2)) (Evl.ex_t (e.trans e2)), Nat.lt_of_le_of_lt (Nat.add_le_add_right few 1) (by decide), fun p hp => ⟨p, met [] l, rfl, upd_same, by have := met_len l []; simp only [List.length_nil] at this; omega, q _ (e2.trans (Ex.new hp))⟩⟩
theorem ev_get {a : Addr} {es : List (Key × V)} {k : Str} (h : Ev ta σ H (.ref a)) (hk : Ev tb σ H (.str k)) (hx : Rd H a (.dK es)) (hv : valV es (Sum.inr k : Key) = some v) : Ev (tDGet ta tb) σ H v := fun H1 e Q q =>
  h H1 e _ fun H2 e2 => hk H2 (e.trans e2) _ fun H3 e3 => ⟨a, v, rfl, .inl ⟨es, Sum.inr k, Evl.ex_rd ((e.trans e2).trans e3) hx, rfl, hv.symm⟩, q H3 (e2.trans e3)⟩
theorem ev_din {a : Addr} {es : List (Key × V)} {k : Str} (hk : Ev tb σ H (.str k)) (h : Ev ta σ H (.ref a)) (hx : Rd H a (.dK es)) : Ev (tDIn tb ta) σ H (.bl (valV es (Sum.inr k : Key)).isSome) := fun H1 e Q q =>
  hk H1 e _ fun H2 e2 => h H2 (e.trans e2) _ fun H3 e3 => ⟨a, valV es (Sum.inr k), rfl, .inl ⟨es, Sum.inr k, Evl.ex_rd ((e.trans e2).trans e3) hx, rfl, rfl⟩, q H3 (e2.trans e3)⟩
/-- a call whose answer is a plain value -/
theorem ev_fn {sp : Sp} {vs : List V} {ta : TA} (h : EvA ta σ H vs) (hs : ∀ H1, Ex H H1 → ∀ Q : VK, (∀ H2, Ex H1 H2 → Q z H2) → sp vs H1 Q E0) : Ev (tCall sp [] E0 ta) σ H z := fun H1 e Q q =>
  h H1 e _ fun H2 e2 => by
    show sp (vs ++ []) H2 Q E0
    rw [List.append_nil]
    exact hs H2 (e.trans e2) Q fun H3 e3 => q H3 (e2.trans e3)
/-- an argument list whose first item is a new list -/
theorem ev_fnL {sp : Sp} {xs : List V} (h : Ev te σ H x) (hl : EvL tb σ H xs) (hs : ∀ p H1, Ex H H1 → H1 p = some (.lst xs) → ∀ Q : VK, (∀ H2, Ex H1 H2 → Q z H2) → sp [x, .ref p] H1 Q E0) : Ev (tCall sp [] E0 (tCons te (tCons tb tNil))) σ H z := fun H1 e Q q =>
  h H1 e _ fun H2 e2 => hl H2 (e.trans e2) _ fun p H3 _ e3 hp => hs p H3 ((e.trans e2).trans e3) hp Q fun H4 e4 => q H4 ((e2.trans e3).trans e4)
end

/-! ### comprehensions that keep every item -/
section
variable {K : PySem.W.Frag} {σ : L2.St} {H : Hp} {te tl : TE} {vs : List Nat} {J : It} {n : Nat} {G : Hp → Prop} {g : TG}
/-- what the new list holds behind i turns, in a heap that has only grown since H0 -/
def Cm (H0 : Hp) (f : Nat → V) (Dl i : Nat) (H' : Hp) : Prop := H0 Dl = none ∧ Ex H0 H' ∧ H' Dl = some (.lst ((List.range i).map f))
theorem cm_next {H0 H' : Hp} {f : Nat → V} {Dl i : Nat} {σ2 : L2.St} (p : Cm H0 f Dl i H') (hi : i < 100000) (he : Ev te σ2 H0 (f i)) :
    te σ2 H' fun y H4 => ∃ acc, H4 Dl = some (.lst acc) ∧ acc.length < sizeLine ∧ Cm H0 f Dl (i + 1) (upd H4 Dl (.lst (acc ++ [y]))) := by
  obtain ⟨p1, p2, p3⟩ := p
  refine he H' p2 _ fun H4 e4 => ⟨_, e4 Dl _ p3, Evl.sz_lt (by simpa using hi), p1, Ex.mut (p2.trans e4) p1, ?_⟩
  rw [upd_same, List.range_succ, List.map_append]
  rfl
/-- over anything that hands on the items xs and leaves the heap as it is -/
theorem el_walk {xs : List V} {f : Nat → V} (w : Walk J xs.length G (YAt xs)) (hz : xs.length ≤ 100000) {H1 : Hp} (hG : ∀ H', Ex H1 H' → G H') {j : Nat} (hw : ∀ x, wipe ((wipe σ vs).set j (some x)) vs = wipe σ vs)
    (he : ∀ (i : Nat) (x : V), xs[i]? = some x → ∀ H2, Ex H1 H2 → Ev te ((wipe σ vs).set j (some x)) H2 (f i)) {Q : VK} (q : ∀ p H2, H1 p = none → Ex H1 H2 → H2 p = some (.lst ((List.range xs.length).map f)) → Q (.ref p) H2) (Dl : Addr) (hD : H1 Dl = none) :
    ∃ W : Nat → Nat → Hp → Prop, (∃ m, W 0 m (upd H1 Dl (.lst []))) ∧ ∀ i m H, W i m H → (J.stop i H ∧ Q (.ref Dl) H) ∨ (J.go i H ∧ ∃ Nx : Hp → Prop, (∀ H', Nx H' → ∃ m', m' < m ∧ W (i + 1) m' H') ∧ ∀ x H', J.yld i H x H' → gName j x (wipe σ vs) H' fun σ2 H2 =>
      wipe σ2 vs = wipe σ vs ∧ tYes σ2 H2 fun b H3 => if b = true then te σ2 H3 fun y H4 => ∃ acc, H4 Dl = some (.lst acc) ∧ acc.length < sizeLine ∧ Nx (upd H4 Dl (.lst (acc ++ [y]))) else Nx H3) := by
  refine lc_it (g := gName j) (tt := tYes) w (Cm H1 f Dl) ⟨hD, Ex.new hD, upd_same⟩ (fun i H' _ p => hG H' p.2.1) (fun i x H2 H' hi p y => ?_) fun H' p => q Dl H' hD p.2.1 p.2.2
  obtain ⟨rfl, hx⟩ := y
  exact ⟨hw x, cm_next p (by omega) (he i x hx H1 (Ex.refl _))⟩
end
end Ssb

/-! Comprehensions and loops over texts, lists, tuples, dicts (under their lock). -/
namespace Ssb
open PySem PySem.Spec PyProof.Rows L2
open Evl (Ex Ev EvT EvL EvA EvU)
section
variable {K : PySem.W.Frag} {σ : L2.St} {H : Hp} {te tl ta td tb : TE} {vs : List Nat} {j : Nat} {f : Nat → V}
/-- len, list(..), tuple(..), truth: the readings by their names -/
def rLenA (K : PySem.W.Frag) : List V → Hp → VK → Prop := fun xs H Q => ∃ x n, xs = [x] ∧ LenV K x H n ∧ Q (V.int n) H
def rListA (K : PySem.W.Frag) : List V → Hp → VK → Prop := fun xs H Q => ∃ p ys, xs = [V.ref p] ∧ (SqL K H p ys ∨ SqT K H p ys) ∧ ∀ l, H l = none → Q (.ref l) (upd H l (.lst ys))
def rTupA (K : PySem.W.Frag) : List V → Hp → VK → Prop := fun xs H Q => ∃ p ys, xs = [V.ref p] ∧ ((SqL K H p ys ∧ ∀ l, H l = none → Q (.ref l) (upd H l (.tup ys))) ∨ (SqT K H p ys ∧ Q (.ref p) H))
def tTruA (K : PySem.W.Frag) (ta : TE) : TT := fun σ H Q => ta σ H fun x H' => ∃ k, TruV K x H' k ∧ Q k H'
theorem ev_allT {n : Nat} (h : EvL te σ H ((List.range n).map fun _ => V.bl true)) : Ev (tCB (rAll K) (tCons te tNil)) σ H (.bl true) := by
  have e : ((List.range n).map fun _ => V.bl true) = ((List.range n).map fun _ => true).map V.bl := by rw [List.map_map]; rfl
  rw [e] at h
  refine Evl.ev_is (ev_all h) ?_
  congr 1
  rw [List.all_eq_true]
  intro b hb
  obtain ⟨_, _, rfl⟩ := List.mem_map.mp hb
  rfl
theorem el_lcS {s : Str} (h : Ev ta σ H (.str s)) (hz : s.length ≤ 100000) (hw : ∀ x, wipe ((wipe σ vs).set j (some x)) vs = wipe σ vs)
    (he : ∀ (i : Nat) (c : Nat), s.cps[i]? = some c → ∀ H2, Ex H H2 → Ev te ((wipe σ vs).set j (some (.str ⟨#[c]⟩))) H2 (f i)) : EvL (tLc (iStr ta) (gName j) tYes te vs) σ H ((List.range s.length).map f) := fun H1 e Q q =>
  h H1 e _ fun H2 e2 => ⟨s, rfl, fun Dl hD => by
    have w : Walk (Its s) (s.cps.toList.map fun c => V.str ⟨#[c]⟩).length (fun _ => True) (YAt (s.cps.toList.map fun c => V.str ⟨#[c]⟩)) := by
      have l : (s.cps.toList.map fun c => V.str ⟨#[c]⟩).length = s.cps.size := by simp
      rw [l]
      refine walk_str.mono (fun _ z => z) fun i H v H' hi _ y => ?_
      obtain ⟨e, c, hc, rfl⟩ := y
      exact ⟨e, by simp [hc]⟩
    refine el_walk (f := f) w (by rw [List.length_map]; exact hz) (fun _ _ => trivial) hw (fun i x hx H3 e3 => ?_) (fun p H3 hp e3 hl => ?_) Dl hD
    · rw [List.getElem?_map] at hx
      cases hc : s.cps.toList[i]? with
      | none => rw [hc] at hx; cases hx
      | some c =>
        rw [hc] at hx
        cases hx
        exact he i c (by simpa using hc) H3 ((e.trans e2).trans e3)
    · refine q p H3 (Evl.fresh_back e2 hp) (e2.trans e3) ?_
      rw [hl]
      simp [Str.length]⟩
theorem el_lcA {a : Addr} {xs : List V} (h : Ev tl σ H (.ref a)) (hx : SqL K H a xs) (hz : xs.length ≤ 100000) (hw : ∀ x, wipe ((wipe σ vs).set j (some x)) vs = wipe σ vs)
    (he : ∀ (i : Nat) (x : V), xs[i]? = some x → ∀ H2, Ex H H2 → Ev te ((wipe σ vs).set j (some x)) H2 (f i)) : EvL (tLc (iList K tl) (gName j) tYes te vs) σ H ((List.range xs.length).map f) := fun H1 e Q q =>
  h H1 e _ fun H2 e2 => ⟨a, rfl, ⟨xs, Evl.ex_l (e.trans e2) hx⟩, fun Dl hD =>
    el_walk (f := f) walk_list hz (fun H3 e3 => Evl.ex_l ((e.trans e2).trans e3) hx) hw (fun i x h3 H3 e3 => he i x h3 H3 ((e.trans e2).trans e3)) (fun p H3 hp e3 hl => q p H3 (Evl.fresh_back e2 hp) (e2.trans e3) hl) Dl hD⟩
theorem el_lcT {a : Addr} {xs : List V} (h : Ev tl σ H (.ref a)) (hx : SqT K H a xs) (hz : xs.length ≤ 100000) (hw : ∀ x, wipe ((wipe σ vs).set j (some x)) vs = wipe σ vs)
    (he : ∀ (i : Nat) (x : V), xs[i]? = some x → ∀ H2, Ex H H2 → Ev te ((wipe σ vs).set j (some x)) H2 (f i)) : EvL (tLc (iTup K tl) (gName j) tYes te vs) σ H ((List.range xs.length).map f) := fun H1 e Q q =>
  h H1 e _ fun H2 e2 => ⟨a, rfl, ⟨xs, Evl.ex_t (e.trans e2) hx⟩, fun Dl hD =>
    el_walk (f := f) walk_tup hz (fun H3 e3 => Evl.ex_t ((e.trans e2).trans e3) hx) hw (fun i x h3 H3 e3 => he i x h3 H3 ((e.trans e2).trans e3)) (fun p H3 hp e3 hl => q p H3 (Evl.fresh_back e2 hp) (e2.trans e3) hl) Dl hD⟩
/-! ### under a lock -/
theorem unlock {H H' : Hp} {d : Addr} {u u' : HO} (hd : H d = some u) (e : Ex (upd H d u') H') : Ex H (upd H' d u) := fun b o hb => by
  by_cases h : b = d
  · subst h; rw [upd_same]; rw [hd] at hb; exact hb
  · rw [upd_ne h]; exact e b o (by rw [upd_ne h]; exact hb)
theorem lock_keys {d : Addr} {o : Obj} {es : List (Key × V)} : Walk (Itk d o es) (es.map fun e => kV e.1).length (fun H => H d = some (.frz o (.dK es))) (YAt (es.map fun e => kV e.1)) := by
  rw [List.length_map]
  refine walk_keys.mono (fun _ z => z) fun i H x H' _ _ y => ?_
  obtain ⟨e, k, v, hk, rfl⟩ := y
  exact ⟨e, by rw [List.getElem?_map, hk]; rfl⟩
theorem lock_vals {d : Addr} {o : Obj} {es : List (Key × V)} : Walk (Itd d o es) (es.map fun e => e.2).length (fun H => H d = some (.frz o (.dK es))) (YAt (es.map fun e => e.2)) := by
  rw [List.length_map]
  refine walk_values.mono (fun _ z => z) fun i H x H' _ _ y => ?_
  obtain ⟨e, k, hk⟩ := y
  exact ⟨e, by rw [List.getElem?_map, hk]; rfl⟩
theorem el_lcK {d : Addr} {es : List (Key × V)} (h : ∀ H1, Ev td σ H1 (.ref d)) (hd : H d = some (.dK es)) (hz : es.length ≤ 100000) (hw : ∀ x, wipe ((wipe σ vs).set j (some x)) vs = wipe σ vs)
    (he : ∀ (i : Nat) (k : Key) (v : V), es[i]? = some (k, v) → ∀ od H1 H2, Ex H H1 → Ex (upd H1 d (.frz od (.dK es))) H2 → Ev te ((wipe σ vs).set j (some (kV k))) H2 (f i)) : EvL (tLockE (tLc (iKeys td) (gName j) tYes te vs)) σ H ((List.range es.length).map f) := fun H1 e Q q => by
  have hd1 := e d _ hd
  refine ⟨d, .dK es, hd1, trivial, fun od => h _ _ (Ex.refl _) _ fun H2 e2 => ⟨d, od, rfl, .inl ⟨es, e2 d _ upd_same, fun Dl hD => ?_⟩⟩⟩
  refine el_walk (f := f) (Q := fun v H' => H' d = some (.frz od (.dK es)) ∧ Q v (upd H' d (.dK es))) lock_keys (by simpa using hz) (fun H3 e3 => e3 d _ (e2 d _ upd_same)) hw (fun i x hx H3 e3 => ?_) (fun p H3 hp e3 hl => ⟨e3 d _ (e2 d _ upd_same), ?_⟩) Dl hD
  · rw [List.getElem?_map] at hx
    cases hc : es[i]? with
    | none => rw [hc] at hx; cases hx
    | some c =>
      rw [hc] at hx
      cases hx
      exact he i c.1 c.2 hc od H1 H3 e (e2.trans e3)
  · have np : p ≠ d := fun z => by
      have := e2 d _ upd_same
      rw [z, this] at hp; cases hp
    refine q p _ ?_ (unlock hd1 (e2.trans e3)) ?_
    · have := Evl.fresh_back e2 hp
      rw [upd_ne np] at this; exact this
    · rw [upd_ne np, hl, List.length_map]
theorem el_lcV {d : Addr} {es : List (Key × V)} (h : ∀ H1, Ex H H1 → ∀ od, Ev td σ (upd H1 d (.frz od (.dK es))) (.ref d)) (hd : H d = some (.dK es)) (hz : es.length ≤ 100000) (hw : ∀ x, wipe ((wipe σ vs).set j (some x)) vs = wipe σ vs)
    (he : ∀ (i : Nat) (k : Key) (v : V), es[i]? = some (k, v) → ∀ od H1 H2, Ex H H1 → Ex (upd H1 d (.frz od (.dK es))) H2 → Ev te ((wipe σ vs).set j (some v)) H2 (f i)) : EvL (tLockE (tLc (iVals td) (gName j) tYes te vs)) σ H ((List.range es.length).map f) := fun H1 e Q q => by
  have hd1 := e d _ hd
  refine ⟨d, .dK es, hd1, trivial, fun od => h H1 e od _ (Ex.refl _) _ fun H2 e2 => ⟨d, od, es, rfl, e2 d _ upd_same, fun Dl hD => ?_⟩⟩
  refine el_walk (f := f) (Q := fun v H' => H' d = some (.frz od (.dK es)) ∧ Q v (upd H' d (.dK es))) lock_vals (by simpa using hz) (fun H3 e3 => e3 d _ (e2 d _ upd_same)) hw (fun i x hx H3 e3 => ?_) (fun p H3 hp e3 hl => ⟨e3 d _ (e2 d _ upd_same), ?_⟩) Dl hD
  · rw [List.getElem?_map] at hx
    cases hc : es[i]? with
    | none => rw [hc] at hx; cases hx
    | some c =>
      rw [hc] at hx
      cases hx
      exact he i c.1 c.2 hc od H1 H3 e (e2.trans e3)
  · have np : p ≠ d := fun z => by
      have := e2 d _ upd_same
      rw [z, this] at hp; cases hp
    refine q p _ ?_ (unlock hd1 (e2.trans e3)) ?_
    · have := Evl.fresh_back e2 hp
      rw [upd_ne np] at this; exact this
    · rw [upd_ne np, hl, List.length_map]
/-! ### a for under a lock: Pv by the lock's object, the turn, the slots, the heap -/
variable {D : Ends} {ts : TS} {g : TG}
def shut (D : Ends) (d : Addr) (u : HO) (od : Obj) (N : L2.St → Hp → Prop) : Ends :=
  { nx := N, ct := N, bk := fun σ' H' => H' d = some (.frz od u) ∧ D.nx σ' (upd H' d u), rt := fun v H' => H' d = some (.frz od u) ∧ D.rt v (upd H' d u) }
theorem for_lock {d : Addr} {es : List (Key × V)} {J : Obj → It} {ti : TI} {xs : Nat → Option V} (hd : H d = some (.dK es)) (hi : ∀ od R, R (J od) (upd H d (.frz od (.dK es))) → ti σ (upd H d (.frz od (.dK es))) R)
    {Y : Nat → Hp → V → Hp → Prop} (w : ∀ od, Walk (J od) es.length (fun H => H d = some (.frz od (.dK es))) Y) (Pv : Obj → Nat → L2.St → Hp → Prop) (h0 : ∀ od, Pv od 0 σ (upd H d (.frz od (.dK es)))) (hG : ∀ od i σ' H', i ≤ es.length → Pv od i σ' H' → H' d = some (.frz od (.dK es)))
    (hs : ∀ od i x σ' H' H2, i < es.length → Pv od i σ' H' → Y i H' x H2 → g x σ' H2 fun σ2 H3 => ts (shut D d (.dK es) od (Pv od (i + 1))) σ2 H3) (hn : ∀ od σ' H', Pv od es.length σ' H' → D.nx σ' (upd H' d (.dK es))) :
    tLock (tFor ti g ts) D σ H := by
  refine ⟨d, .dK es, hd, trivial, fun od => hi od _ ?_⟩
  exact for_it (w od) (Pv od) (h0 od) (fun i σ' H' hi p => hG od i σ' H' hi p) (fun i x σ' H' H2 hi p y => hs od i x σ' H' H2 hi p y) fun σ' H' p => ⟨hG od _ σ' H' (Nat.le_refl _) p, hn od σ' H' p⟩
end
end Ssb

/-! Comprehensions whose target is unpacked: lists, sets of texts. -/
namespace Ssb
open PySem PySem.Spec PyProof.Rows L2
open Evl (Ex Ev EvT EvL EvA EvU)
/-- the target takes x: the slots are σ2 behind it -/
def Unp (g : TG) (vs : List Nat) (σ σ2 : L2.St) (x : V) (H : Hp) : Prop := wipe σ2 vs = wipe σ vs ∧ ∀ Kont : L2.St → Hp → Prop, Kont σ2 H → g x (wipe σ vs) H Kont
section
variable {K : PySem.W.Frag} {σ : L2.St} {H : Hp} {te tl : TE} {vs : List Nat} {g : TG} {f : Nat → V}
theorem el_lcG {a : Addr} {xs : List V} (h : Ev tl σ H (.ref a)) (hx : SqL K H a xs) (hz : xs.length ≤ 100000) (he : ∀ (i : Nat) (x : V), xs[i]? = some x → ∀ H2, Ex H H2 → ∃ σ2, Unp g vs σ σ2 x H2 ∧ ∀ H3, Ex H H3 → Ev te σ2 H3 (f i)) :
    EvL (tLc (iList K tl) g tYes te vs) σ H ((List.range xs.length).map f) := fun H1 e Q q =>
  h H1 e _ fun H2 e2 => ⟨a, rfl, ⟨xs, Evl.ex_l (e.trans e2) hx⟩, fun Dl hD => by
    refine lc_list (K := K) (a := a) (xs := xs) (Cm H2 f Dl) ⟨hD, Ex.new hD, upd_same⟩ (fun i H' _ p => Evl.ex_l ((e.trans e2).trans p.2.1) hx) (fun i x H' hi p => ?_) fun H' p => q Dl H' (Evl.fresh_back e2 hD) (e2.trans p.2.1) p.2.2
    obtain ⟨σ2, ⟨hw, hk⟩, ev⟩ := he i x hi H' ((e.trans e2).trans p.2.1)
    exact hk _ ⟨hw, cm_next p (by have := (List.getElem?_eq_some_iff.mp hi).1; omega) (ev H2 (e.trans e2))⟩⟩
theorem yes_go {F G : Hp → Prop} (h : F H) : tYes σ H (fun b H3 => if b = true then F H3 else G H3) := by
  show (if true = true then F H else G H)
  rw [if_pos rfl]
  exact h
theorem ev_fld {a C dx : Addr} {fs : List (Str × V)} {v : V} {fn : Str} (h : Ev te σ H (.ref a)) (ho : H a = some (.ins C dx fs)) (c : Cls K C) (n : NoAttr K C fn) (l : fs.lookup fn = some v) : Ev (tFld K te fn) σ H v := fun H1 e Q q =>
  h H1 e _ fun H2 e2 => ⟨a, C, dx, fs, v, rfl, (e.trans e2) _ _ ho, c, n, l, q H2 e2⟩
theorem ev_sum {n : Nat} {c : Nat → Int} (h : EvL te σ H ((List.range n).map fun i => V.int (c i))) : Ev (tCB (rSum K) (tCons te tNil)) σ H (.int ((List.range n).map c).sum) := fun H1 e Q q =>
  h H1 e _ fun p H2 _ e2 hp => ⟨p, (List.range n).map c, rfl, by rw [List.map_map]; exact Evl.sq_of hp, q H2 e2⟩
/-- a pure answer handed on as an argument, a new tuple behind it -/
theorem rv_notN {x : V} : Evl.RV (fun x y H Q => y = .non ∧ Q (.bl (!decide (x = .non))) H) x .non H (.bl (!decide (x = .non))) := fun H1 _ _ q => ⟨rfl, q H1 (Ex.refl _)⟩
theorem rv_isN {x : V} : Evl.RV (fun x y H Q => y = .non ∧ Q (.bl (decide (x = .non))) H) x .non H (.bl (decide (x = .non))) := fun H1 _ _ q => ⟨rfl, q H1 (Ex.refl _)⟩
theorem met_snoc : ∀ (l acc : List Str) (x : Str), met acc (l ++ [x]) = put1 (met acc l) x
  | [], acc, x => rfl
  | y :: l, acc, x => met_snoc l _ x
/-- {name for .. in xs} -/
theorem ex_scG {P : Program} {w : World} {a : Addr} {xs : List V} {nms : List Str} (h : Ev tl σ H (.ref a)) (hx : SqL K H a xs) (hn : nms.length = xs.length) (few : xs.length ≤ 1000)
    (he : ∀ (i : Nat) (x : V), xs[i]? = some x → ∃ s, nms[i]? = some s ∧ ∀ H2, Ex H H2 → ∃ σ2, Unp g vs σ σ2 x H2 ∧ ∀ H3, Ex H H3 → Ev te σ2 H3 (.str s)) :
    Ev (tCB (rLenTxs P w) (tCons (tTxs P w (iList K tl) g tYes te vs) tNil)) σ H (.int ((met [] nms).length : Int)) := fun H1 e Q q =>
  h H1 e _ fun H2 e2 => ⟨a, rfl, ⟨xs, Evl.ex_l (e.trans e2) hx⟩, fun Dl hD => by
    have ml := met_len nms []
    simp only [List.length_nil] at ml
    refine ⟨fun i m H' => m = xs.length - i ∧ i ≤ xs.length ∧ Ex H2 H' ∧ H' Dl = some (Txs P w Dl (met [] (nms.take i))), ⟨xs.length, by simp, Nat.zero_le _, Ex.new hD, upd_same⟩, ?_⟩
    rintro i m H' ⟨rfl, hi, e3, hd⟩
    have sq := Evl.ex_l ((e.trans e2).trans e3) hx
    by_cases hlt : i < xs.length
    · refine .inr ⟨⟨xs, xs[i], sq, by simp [hlt]⟩, fun H' => Ex H2 H' ∧ H' Dl = some (Txs P w Dl (met [] (nms.take (i + 1)))), fun H' p' => ⟨xs.length - (i + 1), by omega, rfl, hlt, p'⟩, fun x H'' y => ?_⟩
      obtain ⟨rfl, y⟩ := y
      obtain ⟨s, hs, he2⟩ := he i x (y xs sq)
      obtain ⟨σ2, ⟨hw, hk⟩, ev⟩ := he2 _ ((e.trans e2).trans e3)
      refine hk _ ⟨hw, ev H2 (e.trans e2) _ e3 _ fun H4 e4 => ⟨s, met [] (nms.take i), rfl, e4 _ _ hd, ?_, Ex.mut (e3.trans e4) hD, ?_⟩⟩
      · have := met_len (nms.take i) []
        simp only [List.length_nil, List.length_take] at this
        exact Nat.lt_of_le_of_lt (show (met [] (nms.take i)).length + 1 ≤ 1001 by omega) (by decide)
      · rw [upd_same, List.take_add_one, hs]
        show _ = some (Txs P w Dl (met [] (nms.take i ++ [s])))
        rw [met_snoc]
    · have ei : i = xs.length := by omega
      subst ei
      refine .inl ⟨⟨xs, sq, Nat.le_refl _⟩, Dl, met [] nms, rfl, ?_, by omega, q H' (e2.trans e3)⟩
      rw [hd, ← hn, List.take_length]⟩
end
end Ssb

/-! Own errors over Exception whose __init__ keeps one attribute: made, raised. -/
namespace Ssb
open PySem PySem.Spec L2 PyProof.Rows

abbrev exBm : List Value := [.type "Exception", .type "BaseException", .type "object"]
/-- what the written part tells of such a class -/
structure OexE (K : PySem.W.Frag) (C : Addr) : Prop where
  over : PySem.W.excOver K C exBm = true
  made : PySem.W.excInitIn K C exBm "Exception.__new__" = true
  hd : PySem.W.hasDictIn K C = true
  sa : PySem.W.findIn K (.ref C) "__setattr__" = some (some (.builtin "object.__setattr__"))
  exC : PySem.W.subIn K (.ref C) (.type "BaseException") = some true
  tyC : PySem.W.typeIn K (.ref C) = some (.type "type")
  kC : PySem.W.keepIn K (.ref C) = true
section
variable {X : Cx} {pins : List (Addr × Obj)} {σ : L2.St} {H : Hp} {s : Shared} {a C : Addr} {f : Str} {y : V} {u : Value} {Q : Unit → Shared → Prop} {E : Value → Shared → Prop} {A : Around}
/-- the invariant behind the first attribute -/
theorem ost_inv {hp h' : Heap} {g : Array GenState} {d : Drawn} {t t' : Nat} {os : OsState} {dx t1 : Addr} (I : Inv X pins σ H ⟨hp, g, d, t, os⟩) (e : H a = some (exo a C none)) (ry : RelV y u) (dn : hp.objs.size ≤ dx) (dne : dx ≠ a) (k : ∀ b o, b ≠ a → hp.get? b = some o → h'.get? b = some o)
    (hx : h'.get? a = some ({ cls := .ref C, dict := some dx, data := .fields #[.ref t1, .none, .none, .none, .bool false, .none] } : Obj)) (hn : h'.Ns1 dx (fun z => if z = f then some u else none)) :
    H dx = none ∧ Inv X pins σ (upd (upd H dx (exd dx [(f, y)])) a (exo a C (some dx))) ⟨h', g, d, t', os⟩ := by
  have hnd : H dx = none := I.hok.fresh dn
  have old : ∀ b o, hp.get? b = some o → b ≠ dx := fun b o q => Nat.ne_of_lt (Nat.lt_of_lt_of_le (Heap.lt_size q) dn)
  have nota : ∀ b, H b = none → b ≠ a := fun b n z => by rw [z, e] at n; cases n
  refine ⟨hnd, I.un (t' := t') ⟨fun b o q n _ _ => k b o (nota b n) q, fun b o q n _ _ => ⟨o.slots, k b o (nota b n) q⟩, fun b o q n _ => (by rw [upd_ne (nota b n), upd_ne (old b o q)]; exact n), fun b o q _ => ?_,
    fun b xs q => (by rw [upd_ne (at_ne e q exo_tup), upd_ne (ne_of_none q hnd)]; exact q), fun b o v q => (by rw [upd_ne (at_ne e q exo_frz), upd_ne (ne_of_none q hnd)]; exact q), fun b ps q => ⟨#[], (by rw [upd_ne (at_ne e q exo_tbl), upd_ne (ne_of_none q hnd), q]; simp)⟩⟩ fun b o q => ?_⟩
  · by_cases hb : b = a
    · exact ⟨_, hb ▸ hx⟩
    · exact ⟨o, k b o hb q⟩
  · by_cases hb : b = a
    · subst hb; rw [upd_same] at q; cases q; exact exo_ok hx
    rw [upd_ne hb] at q
    by_cases hd : b = dx
    · subst hd; rw [upd_same] at q; cases q; exact exd_ok hn (relO_put (fs := []) ry fun g => True.intro)
    rw [upd_ne hd] at q
    refine (I.hok b o q).stay (fun c v hc z => k c v (hc.elim (fun hc => by rw [hc]; exact hb) fun hc => at_ne e hc exo_own) z) (fun c hc => ?_) (fun c xs hc => ?_)
    · rw [upd_ne (at_ne e hc exo_own), upd_ne (ne_of_none hc hnd)]; exact hc
    · rw [upd_ne (at_ne e hc exo_tup), upd_ne (ne_of_none hc hnd)]; exact hc
/-- self.f = y, the first attribute -/
theorem ost_newE (T : OexE X.K C) (I : Inv X pins σ H s) (e : H a = some (exo a C none)) (hno : PySem.W.findIn X.K (.ref C) f = some none) (ry : RelV y u)
    (h : ∀ dx s', H dx = none → dx ≠ a → Inv X pins σ (upd (upd H dx (exd dx [(f, y)])) a (exo a C (some dx))) s' → Q () s') : wpAny (model X.prog X.w) A (setAttr (.ref a) f u) Q E s := by
  obtain ⟨t1, ho⟩ := exo_at I.hok e
  obtain ⟨hp, g, d, t, os⟩ := s
  obtain ⟨cd, hc, hd'⟩ := PySem.W.any_some T.hd
  have hxs : a ≠ hp.objs.size := Nat.ne_of_lt (Heap.lt_size ho)
  refine PySem.W.set_plain I.kIn (od := none) ⟨ho, rfl, rfl, trivial⟩ T.sa (PySem.W.osa_openX (od := none) PySem.F.store_Exception I.kIn ⟨ho, rfl, rfl, trivial⟩ T.over (r := none) (by unfold PySem.W.takerIn; rw [hno]; rfl) fun b => ?_)
  refine wpAny_bind (wpAny_pure (wpAny_bind (PySem.W.instanceDict_exc (t := t1) (c2 := .none) ho (PySem.W.looks_clsIn I.kIn hc) hd' ?_)))
  refine PySem.HandSPX.store_in_new ?_ fun h' tk' hn' hs => ?_
  · exact ⟨_, #[], _, (Heap.get?_update_ne _ _ _ _ hxs.symm).trans (Heap.get?_push_at rfl rfl), rfl, fun e he => absurd he (by simp), fun _ => rfl⟩
  · have k : ∀ b o, b ≠ a → hp.get? b = some o → h'.get? b = some o := fun b o nb ho' => (hs.2 b (Nat.ne_of_lt (Heap.lt_size ho'))).trans ((Heap.get?_update_ne _ _ _ _ nb).trans (Heap.get?_push_of_some _ ho'))
    have hx : h'.get? a = some ({ cls := .ref C, dict := some hp.objs.size, data := .fields #[.ref t1, .none, .none, .none, .bool false, .none] } : Obj) := (hs.2 a hxs).trans (Heap.get?_update_self _ (Heap.get?_push_of_some _ ho) rfl)
    obtain ⟨n, J⟩ := ost_inv (t' := tk') I e ry (Nat.le_refl _) hxs.symm k hx hn'
    exact h _ _ n hxs.symm J
end
/-! ### readings and rules -/
/-- self.f = e within such an __init__ -/
def tOsE (K : PySem.W.Frag) (f : Str) (to te : TE) : TS := fun D σ H => te σ H fun y H1 => to σ H1 fun x H2 => ∃ a C : Addr, x = .ref a ∧ OexE K C ∧ PySem.W.findIn K (.ref C) f = some none ∧
  H2 a = some (exo a C none) ∧ ∀ dx, H2 dx = none → dx ≠ a → D.nx σ (upd (upd H2 dx (exd dx [(f, y)])) a (exo a C (some dx)))
section
variable {X : Cx} {o e : Expr} {es : List Expr} {to te : TE} {ta : TA} {f : Str} {p p' pos : Pos}
theorem ps_osE (ho : PE X o to) (he : PE X e te) (hs : swapsWith e (some (.Attribute o f p')) pos.line X.env = pure false := by rfl) : PS X (.Assign [.Attribute o f p'] e pos) (tOsE X.K f to te) :=
  ⟨fun pins s σ H D I h => plainObj_wpAny_Assign_Attribute (thn (he.run pins s σ H _ I h) fun v s1 ⟨y, H1, I1, r1, q1⟩ => thn (ho.run pins s1 σ H1 _ I1 q1) fun u s2 ⟨x, H2, I2, r2, a, C, ex, T, hno, ea, q⟩ => by
    subst ex
    cases (show u = Value.ref a from r2)
    exact ost_newE T I2 ea hno r1 fun dx s' n ne J => ⟨σ, _, J, q dx n ne⟩) hs⟩
/-- C(e, ..) as what is raised; its __init__ keeps sp -/
theorem pmk_oexE {x : Str} {C fI : Addr} {k j : Nat} {fd : FuncData} {ps : List Str} {sp : Sp} (T : OexE X.K C) (G : Mt X.prog X.w X.K X.mg X.base C "__init__" k ps sp fI fd) (tI : PySem.W.typeIn X.K (.ref fI) = some (.type "function")) (hr : Room j X.A) (hm : X.mg x = some (.ref C)) (ha : PA X (e :: es) ta) (hj : k + 1 ≤ j := by first | decide | omega)
    (hg : Gl X x := by rfl) (hdb : (x == ("__debug__" : Str)) = false := by decide) (he : starEach (e :: es) X.env = (false, eval e X.env) :: starEach es X.env := by rfl) (hpl : (backTo pos (starEach es X.env)).any (·.1) = false := by rfl) : PMk X (.Call (.Name x p) (e :: es) [] pos) (tMkO C sp [] ta) := by
  intro pins s σ H Q I h
  refine wpAny_Call_Name_kw (ld_glob I hg hm ?_ hdb)
  refine PySem.W.callWith_K (h₀ := X.base) I.ok.mod.kin T.kC (thn (ha.run pos pins s σ H _ I h) fun us s1 ⟨vs, H1, I1, r1, hz, q1⟩ => ⟨I1.kIn, ?_⟩) he hpl
  show wpAny _ _ (call (.ref C) us) _ _ _
  obtain ⟨hp, g, dr, tk, os⟩ := s1
  obtain ⟨nm, N, qn, bs, bm, hdct, sn, sub, ab, col, dd, k0, k1, k2, k3, k5, hC, hT⟩ := PySem.W.excInit_of I1.kIn T.made
  have hn : H1 (hp.objs.size + 1) = none := I1.hok.fresh (Nat.le_succ _)
  have hq := q1 (hp.objs.size + 1) hn
  rw [List.append_nil] at hq
  have kk : ∀ b o, hp.get? b = some o → ((hp.push (PySem.W.kdv_tup us)).push (PySem.HandSPX.excO C hp.objs.size)).get? b = some o := fun b o z => Heap.get?_push_of_some _ (Heap.get?_push_of_some _ z)
  have hget : ((hp.push (PySem.W.kdv_tup us)).push (PySem.HandSPX.excO C hp.objs.size)).get? (hp.objs.size + 1) = some (PySem.HandSPX.excO C hp.objs.size) := by heap_get
  have I2 := I1.laid (t' := tk) (o := exo (hp.objs.size + 1) C none) kk (Nat.le_succ _) (exo_ok hget)
  have r2 : Vals (V.ref (hp.objs.size + 1) :: vs) (Value.ref (hp.objs.size + 1) :: us) := .cons rfl r1
  have hl : (Value.ref (hp.objs.size + 1) :: us ++ []).length = ps.length := by rw [List.append_nil, ← r2.length, G.ok.len _ _ _ _ hq]
  have hb := G.bd ⟨(hp.push (PySem.W.kdv_tup us)).push (PySem.HandSPX.excO C hp.objs.size), g, dr, tk, os⟩ (Value.ref (hp.objs.size + 1) :: us) I2.kIn hl
  rw [List.append_nil] at hb
  have hus : us.length ≤ sizeLine := by rw [← Paired.length r1, sizeLine_eq]; omega
  refine wpAny_call (PySem.HandSPX.call_own PySem.F.excBase_Exception hT hC (PySem.W.looks_findIn I1.kIn G.mt.at_) (fun self => PySem.W.bind_fn I1.kIn self tI) hus
    (codeAny_mono (G.ok.run _ X.stack _ _ ⟨Value.ref (hp.objs.size + 1) :: us, []⟩ (Value.ref (hp.objs.size + 1) :: us) _ _ E0 ((hr.mono hj).make C us []) (I2.env0.make C us []) hb r2 hq) fun r s' hq' => ?_))
  cases r with
  | error er => exact hq'.elim
  | ok fl =>
    cases fl with
    | ret u =>
      obtain ⟨v, H2, os2, bare2, un2, hok2, rv, ev, d, fs, ea, ed, hd1, q2⟩ := hq'
      subst ev
      obtain ⟨h2, g2, d2, t2, os'⟩ := s'
      exact ⟨rv, mk_end (raises_own T.exC T.tyC) I1 (Nat.le_succ _) kk un2 hok2 os2 bare2 ea ed hd1 q2⟩
    | next => exact hq'.elim
    | brk => exact hq'.elim
    | cont => exact hq'.elim
end
end Ssb

/-! try .. except C as e, where the caught error stays known behind the suite. -/
namespace Ssb
open PySem PySem.Spec L2 PyProof.Rows
/-- at a: an error that was caught, of this class, with this dict -/
def exk (a : Addr) (cls : Value) (d : Option Addr) : HO := .ext fun h => ∃ oe vs, h.get? a = some oe ∧ Zc cls d oe ∧ oe.data = .fields vs
theorem exk_ok {P : Program} {w : World} {H : Hp} {h : Heap} {a : Addr} {cls : Value} {d : Option Addr} {oe : Obj} {vs : Array Value} (e : h.get? a = some oe) (z : Zc cls d oe) (f : oe.data = .fields vs) : ObjOk P w H h a (exk a cls d) :=
  ⟨⟨oe, vs, e, z, f⟩, ⟨oe, e⟩, fun _ _ ⟨o2, v2, e2, z2, f2⟩ k => ⟨o2, v2, k _ e2, z2, f2⟩⟩
theorem exk_at {P : Program} {w : World} {H : Hp} {h : Heap} {a : Addr} {cls : Value} {d : Option Addr} (hok : HOk P w H h) (e : H a = some (exk a cls d)) : ∃ oe vs, h.get? a = some oe ∧ Zc cls d oe ∧ oe.data = .fields vs := by
  have x : ObjOk P w H h a (.ext fun h => ∃ oe vs, h.get? a = some oe ∧ Zc cls d oe ∧ oe.data = .fields vs) := hok a _ e
  exact x.1
section
variable {X : Cx} {pins : List (Addr × Obj)} {σ : L2.St} {H : Hp} {s : Shared}
theorem adopt {a : Addr} {oe : Obj} {vs : Array Value} {cls : Value} {d : Option Addr} (I : Inv X ((a, oe) :: pins) σ H s) (hd : oe.data = .fields vs) (hz : Zc cls d oe) (n0 : ∀ b o, X.s_0.heap.get? b = some o → b ∉ X.ex → b ≠ a) (np : ∀ p ∈ X.pn ++ pins, p.1 ≠ a) : Inv X pins σ (upd H a (exk a cls d)) s := by
  obtain ⟨ge, na, nL, nF, nC⟩ := I.pin (a, oe) (List.mem_append_right _ List.mem_cons_self)
  have keep : ∀ {b : Addr} {o : HO}, H b = some o → (upd H a (exk a cls d)) b = some o := fun {b o} hb => by
    rw [upd_ne (fun z => by rw [z, na] at hb; cases hb)]; exact hb
  have B := I.base
  refine ⟨I.ok, I.os, I.bare, ⟨B.keep, B.slot, fun b o q n x => (by rw [upd_ne (n0 b o q x)]; exact B.free b o q n x), B.there, fun b xs q => keep (B.tups b xs q), fun b o u q => keep (B.frzs b o u q), fun b ps q => (B.tbls b ps q).imp fun _ h => keep h⟩, I.loc, I.cell, ?_, fun x c hc => ?_, fun p hp => ?_, fun b o q => ?_, I.len⟩
  · rw [upd_ne (Ne.symm nL)]; exact I.free
  · obtain ⟨v, oc, e1, e2⟩ := I.cell x c hc
    have : c ≠ a := fun z => by
      rw [z] at e1
      have e3 := Option.some.inj (ge.symm.trans e1)
      have e3 : oe = oc := e3
      rw [← e3] at e2
      exact nC _ (by simpa using e2)
    rw [upd_ne this]; exact I.freeC x c hc
  · obtain ⟨e1, e2, e3⟩ := I.pin p (by
      rcases List.mem_append.mp hp with h | h
      · exact List.mem_append_left _ h
      · exact List.mem_append_right _ (List.mem_cons_of_mem _ h))
    exact ⟨e1, by rw [upd_ne (np p hp)]; exact e2, e3⟩
  · by_cases hb : b = a
    · subst hb; rw [upd_same] at q; cases q; exact exk_ok ge hz hd
    · rw [upd_ne hb] at q
      exact (I.hok b o q).stay (fun _ _ _ z => z) (fun _ hc => keep hc) fun _ _ hc => keep hc
end
/-- what the clause asks of an error of the body: as wAs, but behind the suite a is known -/
def wKeep (K : PySem.W.Frag) (c : Value) (i : Nat) (ts : Addr → Value → Option Addr → TS) (Wout : WX) (D : Ends) : WX := fun cls d σ H => ∃ b, PySem.W.exmOne K cls c = some b ∧
  (b = true → ∀ a, H a = none → ts a cls d { nx := fun σ' H' => D.nx (σ'.set i none) (upd H' a (exk a cls d)), rt := fun v H' => D.rt v (upd H' a (exk a cls d)), bk := fun σ' H' => D.bk (σ'.set i none) (upd H' a (exk a cls d)), ct := fun σ' H' => D.ct (σ'.set i none) (upd H' a (exk a cls d)) } (σ.set i (some (.ref a))) H) ∧ (b = false → Wout cls d σ H)
section
variable {X : Cx} {x n : Str} {c : Value} {i : Nat} {body suite : List Stmt} {b₀ : Stmt} {np pos pos' : Pos} {tb : WX → TS} {ts : Addr → Value → Option Addr → TS} {Wout : WX}
theorem ps_try_keep (hs : X.stack = X.env :: X.outer) (hf : X.env.frame = some X.env.locals) (hN : X.N.Nodup) (hi : X.N[i]? = some n) (hln : X.env.kindOf n = some .local) (hc : Names X x c) (tk : Takes X Wout)
    (hb : ∀ (W : WX) (pn : List (Addr × Obj)) (xe : Value → Shared → Prop), Takes (X.tr pn xe) W → PassesOwn (model X.prog X.w) X.A X.env xe → PSs (X.tr pn xe) body (tb W))
    (hsu : ∀ (a : Addr) (oe : Obj) (cls : Value) (d : Option Addr) (pn : List (Addr × Obj)), Zc cls d oe → (∃ vs, oe.data = .fields vs) → PSs (X.suite a ((a, oe) :: pn)) (b₀ :: suite) (ts a cls d)) :
    PS X (.Try body [.ExceptHandler (some (.Name x np)) (some n) (b₀ :: suite) pos'] [] [] pos) (fun D σ H => tb (wKeep X.K c i ts Wout D) D σ H) := by
  refine ⟨fun pins s σ H D I h => ?_⟩
  have ok := I.ok
  have fr0 : X.A.frames = some (X.env :: X.outer) := by rw [ok.frames, hs]
  refine wpAny_Try_except (wpAny_mono ((hb (wKeep X.K c i ts Wout D) (X.pn ++ pins) (fun e s₁ => wpAny (model X.prog X.w) X.A (noteFrame e X.env) (fun _ s₂ => wpAny (model X.prog X.w) X.A (setFlight e none) (fun _ s₃ => wpAny (model X.prog X.w) X.A (handleBy e X.env [.ExceptHandler (some (.Name x np)) (some n) (b₀ :: suite) pos']) (SP X pins D) X.xe s₃) X.xe s₂) X.xe s₁) (fun u s' xx => ?_) PassesOwn.looking).run [] s σ H D (I.toTry _) h) (fun f s1 hsp => ?_) (fun e s1 he => he))
  · obtain ⟨a, B, sI, pins', σ1, HH, cls, d, rfl, J0, nb, up, sky, na, os, ag, b, hb1, hyes, hno⟩ := xx
    have J : Inv X pins σ1 HH sI := J0.ofTry ok
    rw [show (X.tr (X.pn ++ pins) _).stack = X.env :: X.outer from hs] at sky
    refine Sky.land Zc.steady fr0 hf sky fun h3 fl3 up3 => ?_
    have J3 : Inv X pins σ1 HH { s' with heap := h3 } := J.landed nb fl3.1 (up.trans up3) os ag
    obtain ⟨oe3, vs3, he3, hz3, hd3⟩ := fl3.there
    have nfr : a ∉ frs (X.env :: X.outer) := fun hm => by
      obtain ⟨_, o', e', hnf⟩ := fl3.2.2.1.mem hm
      rw [he3] at e'; cases e'; exact hnf _ hd3
    have nL : a ≠ X.env.locals := fun z => nfr (List.mem_filterMap.mpr ⟨X.env, List.mem_cons_self, (by rw [hf, z])⟩)
    have nF : a ∉ X.fs := fun hm => (List.mem_filterMap.mp hm).elim fun e he => nfr (List.mem_filterMap.mpr ⟨e, List.mem_cons_of_mem _ he.1, he.2⟩)
    -- the error is younger than all that stood
    have young : sI.heap.get? a = none := by
      cases hg : sI.heap.get? a with
      | none => rfl
      | some o =>
        have := nb a o hg (by rw [show (X.tr (X.pn ++ pins) _).stack = X.env :: X.outer from hs]; exact nfr)
        rw [fl3.2.1] at this; cases this
    have n0 : ∀ b o, X.s_0.heap.get? b = some o → b ∉ X.ex → b ≠ a := fun b o q hx z => by
      obtain ⟨o', h'⟩ := J.base.there b o q hx
      rw [z, young] at h'; cases h'
    have np0 : ∀ p ∈ X.pn ++ pins, p.1 ≠ a := fun p hp z => by
      have := (J.pin p hp).1
      rw [z, young] at this; cases this
    have S3 := J3.suite he3 hd3 na nL nF
    have LM := PySem.W.exm_one (M := model X.prog X.w) J3.kIn (show PySem.W.Looks (model X.prog X.w) h3 (typeOf (.ref a)) cls from fun A Q E s k q => wpAny_typeOf_ref (k _ _ he3) (by rw [hz3.1]; exact q)) hb1
    refine wpAny_handleBy_cons (codeAny_handlers_test ?_) (by intro q; cases q)
    have test : ∀ {Q : Value → Shared → Prop} {E : Value → Shared → Prop}, Q c { s' with heap := h3 } → wpAny (model X.prog X.w) (X.A.mark (some (.ref a))) (eval (.Name x np) X.env) Q E { s' with heap := h3 } := fun {Q E} q => by
      obtain ⟨hg, hdb, hm | ⟨hm, hv, hnn⟩⟩ := hc
      · exact ld_glob S3 hg hm q hdb
      · exact ld_blt S3 hg hm hv q hnn hdb
    refine test (LM.here ?_)
    cases b with
    | true =>
      refine codeAny_handlers_suite_as (HandSPX.lands_againZ fl3 fun h4 fl4 up4 => ?_)
      have J4 : Inv X pins σ1 HH { s' with heap := h4 } := J.landed nb fl4.1 ((up.trans up3).trans up4) os ag
      obtain ⟨oe4, vs4, he4, hz4, hd4⟩ := fl4.there
      refine store_ok (X := X.suite a ((a, oe4) :: (X.pn ++ pins))) (v := .ref a) (J4.suite he4 hd4 na nL nF) hN hi (.inl hln) rfl (fun s5 S5 => ?_) (.inr hln)
      refine wpAny_mono ((hsu a oe4 cls d (X.pn ++ pins) hz4 ⟨_, hd4⟩).run [] s5 _ HH _ S5 (hyes rfl a na)) (fun f s6 hsp => ?_) (fun _ _ z => False.elim z)
      have fin : ∀ {σ6 : L2.St} {H6 : Hp} {Q : Shared → Prop}, Inv (X.suite a ((a, oe4) :: (X.pn ++ pins))) [] σ6 H6 s6 → (∀ s7, Inv X pins (σ6.set i none) (upd H6 a (exk a cls d)) s7 → Q s7) →
          wpAny (model X.prog X.w) X.A (do bindName X.env n .none; unbindBehindTheSuite X.env n pos') (fun _ s7 => Q s7) X.xe s6 := fun {σ6 H6 Q} S6 hq => by
        have I6 : Inv X ((a, oe4) :: pins) σ6 H6 s6 := ⟨ok, S6.os, S6.bare, S6.base, S6.loc, S6.cell, S6.free, S6.freeC, fun p hp => S6.pin p (by
          rw [List.append_nil]
          rcases List.mem_append.mp hp with h | h
          · exact List.mem_cons_of_mem _ (List.mem_append_left _ h)
          · rcases List.mem_cons.mp h with h | h
            · rw [h]; exact List.mem_cons_self
            · exact List.mem_cons_of_mem _ (List.mem_append_right _ h)), S6.hok, S6.len⟩
        exact gone_ok I6 hN hi hln fun s7 J7 => hq s7 (adopt J7 hd4 hz4 n0 np0)
      cases f with
      | ret u => obtain ⟨v6, σ6, H6, S6, r6, q6⟩ := hsp; exact fin S6 fun s7 J7 => ⟨_, _, _, J7, r6, q6⟩
      | next => obtain ⟨σ6, H6, S6, q6⟩ := hsp; exact fin S6 fun s7 J7 => ⟨_, _, J7, q6⟩
      | brk => obtain ⟨σ6, H6, S6, q6⟩ := hsp; exact fin S6 fun s7 J7 => ⟨_, _, J7, q6⟩
      | cont => obtain ⟨σ6, H6, S6, q6⟩ := hsp; exact fin S6 fun s7 J7 => ⟨_, _, J7, q6⟩
    | false =>
      show wpAny _ X.A (handleBy (.ref a) X.env []) _ _ _
      obtain ⟨k1, k2, k3, oe, vs, T, oT, ts', he, hz, hd, h1, hr⟩ := id fl3
      refine wpAny_handleBy_nil ?_
      unfold PySem.passOn
      refine wpAny_bind (wpAny_field he hd h1 ?_)
      rw [if_neg (show ¬ ((Value.ref T == Value.none) = true) by simp)]
      have go : wpAny (model X.prog X.w) X.A (setFlight (.ref a) X.env.frame) (fun _ s4 => wpAny (model X.prog X.w) X.A (throw (.ref a) : Sem Flow) (SP X pins D) X.xe s4) X.xe { s' with heap := h3 } := by
        rw [hf]
        exact HandSPX.setFlight_upZ fl3 fun h4 hh4 up4 => wpAny_throw (tk _ _ ⟨a, B, sI, pins, σ1, HH, cls, d, rfl, J, nb, (up.trans up3).trans up4, .inr (.inr (by rw [hs]; exact hh4)), na, os, ag, hno rfl⟩)
      first
        | exact wpAny_bind go
        | exact wpAny_bind (wpAny_pure (wpAny_bind go))
  · cases f with
    | ret u => obtain ⟨v, σ1, HH, J, r, q⟩ := hsp; exact ⟨v, σ1, HH, J.ofTry ok, r, q⟩
    | next => obtain ⟨σ1, HH, J, q⟩ := hsp; exact wpAny_execs_nil ⟨σ1, HH, J.ofTry ok, q⟩
    | brk => obtain ⟨σ1, HH, J, q⟩ := hsp; exact ⟨σ1, HH, J.ofTry ok, q⟩
    | cont => obtain ⟨σ1, HH, J, q⟩ := hsp; exact ⟨σ1, HH, J.ofTry ok, q⟩
end
end Ssb

/-! A caught error that is kept: its attribute, isinstance of it. -/
namespace Ssb
open PySem PySem.Spec L2 PyProof.Rows
/-- what the class says, so that isinstance asks its instances rightly -/
structure ExK (K : PySem.W.Frag) (C : Addr) : Prop where
  xf : XfC K C
  cl : (PySem.W.clsIn K C).isSome = true
  ha : PySem.W.findIn K (.ref C) "__class__" = some (some (.builtin "object.__class__"))
  hn : PySem.W.specialIn K (.builtin "object.__class__") "__get__" = some (some (.builtin "getset_descriptor.__get__"))
  ht : PySem.W.takesIn K (.builtin "object.__class__") = some true
  hm : PySem.W.mroIn K C (.type "object") = some true
theorem exk_cl {K : PySem.W.Frag} {C : Addr} (h : PySem.W.hasDictIn K C = true) : (PySem.W.clsIn K C).isSome = true := by
  obtain ⟨cd, hc, _⟩ := PySem.W.any_some h
  rw [hc]; rfl
section
variable {X : Cx} {pins : List (Addr × Obj)} {σ : L2.St} {H : Hp} {s : Shared}
/-- the kept error as an instance of its class -/
theorem kept_inst {a C d : Addr} {fs : List (Str × V)} (I : Inv X pins σ H s) (e : H a = some (exk a (.ref C) (some d))) (ed : H d = some (.xd fs)) : ∃ (oe od : Obj) (mA : Str → Option Value), PySem.W.InstAt s.heap a oe C (some od) ∧ (∀ f, PySem.W.lookIn f od = some (mA f)) ∧ ∀ f, RelO (fs.lookup f) (mA f) := by
  obtain ⟨oe, vs, he, hz, hf⟩ := exk_at I.hok e
  obtain ⟨mA, hns, hr⟩ := (show ObjOk X.prog X.w H s.heap d (.xd fs) from I.hok d _ ed)
  obtain ⟨od, ho, hl⟩ := lookIn_ns hns
  exact ⟨oe, od, mA, ⟨he, hz.1, (by unfold PySem.W.notCls; rw [hf] <;> rfl), (by rw [hz.2]; exact ho)⟩, hl, hr⟩
/-- e.f, e a kept error -/
def tFldE (C : Addr) (f : Str) (te : TE) : TE := fun σ H Q => te σ H fun x H1 => ∃ (a d : Addr) (fs : List (Str × V)) (v : V), x = .ref a ∧ H1 a = some (exk a (.ref C) (some d)) ∧ H1 d = some (.xd fs) ∧ fs.lookup f = some v ∧ Q v H1
theorem pe_fldE {C : Addr} {e : Expr} {te : TE} {pos : Pos} {n : Str} (T : XfC X.K C) (hno : PySem.W.findIn X.K (.ref C) n = some none) (he : PE X e te) (hb : attributeBase e n X.env (eval e X.env) = eval e X.env := by rfl) : PE X (.Attribute e n pos) (tFldE C n te) := by
  refine ⟨fun pins s σ H Q I h => attr_of hb (thn (he.run pins s σ H _ I h) fun u s1 ⟨x, H1, I1, rx, a, d, fs, v, ex, ea, ed, l, q⟩ => ?_)⟩
  subst ex
  cases (show u = Value.ref a from rx)
  obtain ⟨oe, od, mA, J, hl, hr⟩ := kept_inst I1 ea ed
  obtain ⟨u, hu, ru⟩ := RelO.some_of (v := v) (o := mA n) (by rw [← l]; exact hr n)
  exact HandSPX.exc_get I1.kIn J T.ga T.gg T.exC (PySem.W.findObj_own T.hdC hno rfl (by rw [hl, hu])) (handed_of ru) ⟨v, H1, I1.tok _, ru, q⟩
/-- isinstance(e, c), e a kept error -/
def rIsiE (K : PySem.W.Frag) : List V → Hp → VK → Prop := fun xs H Q => ∃ (a C d : Addr) (fs : List (Str × V)) (c : V) (u : Value) (b : Bool), xs = [.ref a, c] ∧ ClsV c u ∧ ExK K C ∧ H a = some (exk a (.ref C) (some d)) ∧ H d = some (.xd fs) ∧ PySem.W.kitOne K (.ref C) u = some b ∧ Q (.bl b) H
theorem call_isiE : CallR X (.builtin "isinstance") (rIsiE X.K) := by
  intro pins s σ H xs us Q I r h
  obtain ⟨a, C, d, fs, c, u, b, rfl, k, T, ea, ed, e, q⟩ := h
  obtain ⟨u1, u2, rfl, r1, r2⟩ := vals2 r
  cases k.eq r2
  cases (show u1 = Value.ref a from r1)
  obtain ⟨oe, od, mA, J, hl, hr⟩ := kept_inst I ea ed
  exact PySem.W.kia_one (PySem.W.kitx_exc (od := some od) T.cl T.xf.ga T.xf.gg T.xf.exC T.ha T.hn T.ht T.hm) I.kIn J e (fun z => nomatch z) fun tk => ⟨.bl b, H, I.tok tk, rfl, q⟩
end
end Ssb

/-! Defs and methods that may raise, called where what is raised is asked for at the caller's slots. -/
namespace Ssb
open PySem PySem.Spec L2 PyProof.Rows
structure FnX (P : Program) (w : World) (K : PySem.W.Frag) (mg : Str → Option Value) (base : Heap) (nm : Str) (k : Nat) (ps : List Str) (sp : Sp) (f : Addr) (fd : FuncData) : Prop where
  ok : FnOk P w K mg base (L2.CX P w) k f fd ps sp
  at_ : mg nm = some (.ref f)
  kp : PySem.W.keepIn K (.ref f) = true
  bd : Binds K fd ps []
structure MtX (P : Program) (w : World) (K : PySem.W.Frag) (mg : Str → Option Value) (base : Heap) (C : Addr) (nm : Str) (k : Nat) (ps : List Str) (sp : Sp) (f : Addr) (fd : FuncData) : Prop where
  ok : FnOk P w K mg base (L2.CX P w) k f fd ps sp
  mt : Meth K C nm f
  bd : Binds K fd ps []
section
variable {X : Cx} {W : WX} {nm : Str} {k j : Nat} {ps : List Str} {sp : Sp} {f : Addr} {fd : FuncData} {p pos apos : Pos} {e o : Expr} {es : List Expr} {ta : TE} {t : TA} {C : Addr} {pl : Sem Bool}
theorem passes_at (tk : Takes X W) (σ : L2.St) : PassesAt (L2.CX X.prog X.w) X σ (fun cls d H => W cls d σ H) := fun pins H s e s' I c => tk _ _ (XE.of_call I (fun _ _ _ h => h) c)
/-- f(e, ..) -/
theorem pclX (G : FnX X.prog X.w X.K X.mg X.base nm k ps sp f fd) (tk : Takes X W) (hr : Room j X.A) (ha : PA X (e :: es) t) (hj : k ≤ j := by first | decide | omega) (hg : Gl X nm := by rfl) (hdb : (nm == ("__debug__" : Str)) = false := by decide)
    (he : starEach (e :: es) X.env = (false, eval e X.env) :: starEach es X.env := by rfl) (hpl : (backTo pos (starEach es X.env)).any (·.1) = false := by rfl) : PE X (.Call (.Name nm p) (e :: es) [] pos) (tCallSD sp [] (fun σ cls d H => W cls d σ H) t) :=
  pe_callSD G.ok (hr.mono hj) hg G.at_ G.kp G.bd .nil (passes_at tk) ha hdb he hpl
/-- the reading of o.m(e, ..) -/
def tMethS (C : Addr) (m : Str) (sp : Sp) (W : WX) (ta : TE) (t : TA) : TE := fun σ H Q => ta σ H fun x H1 => ∃ a dx fs, x = .ref a ∧ H1 a = some (.ins C dx fs) ∧ fs.lookup m = none ∧ t σ H1 fun vs H2 => sp (x :: vs) H2 Q fun cls d H' => W cls d σ H'
theorem pmtX (ho : PE X o ta) (c : Cls X.K C) (G : MtX X.prog X.w X.K X.mg X.base C nm k ps sp f fd) (tk : Takes X W) (hr : Room j X.A) (ha : PA X (e :: es) t) (hj : k ≤ j := by first | decide | omega)
    (he : starEach (e :: es) X.env = (false, eval e X.env) :: starEach es X.env := by rfl) (hpl : (backTo pos (starEach es X.env)).any (·.1) = false := by rfl)
    (ht : eval (.Call (.Attribute o nm apos) (e :: es) [] pos) X.env = (do
      let ov ← eval o X.env
      standAt apos.atName
      let (f, first) ← holding [ov] (getMethod ov nm pl)
      callWith pos f first (backTo pos (starEach (e :: es) X.env)) (backToKw pos (keywordEach [] X.env))) := by rfl) : PE X (.Call (.Attribute o nm apos) (e :: es) [] pos) (tMethS C nm sp W ta t) := by
  refine ⟨fun pins s σ H Q I h => PySem.W.methodCall_KW (pl := pl) (thn (ho.run pins s σ H _ I h) fun u s1 ⟨x, H1, I1, rx, a, dx, fs, ex, ea, l, q⟩ => ?_) ht⟩
  subst ex
  cases (show u = Value.ref a from rx)
  refine getmeth_ok I1 ea c G.mt l (PySem.W.callWith_K (first := [.ref a]) (h₀ := X.base) I.ok.mod.kin G.mt.kp (thn (ha.run pos pins s1 σ H1 _ I1 q) fun us s2 ⟨vs, H2, I2, r, q2⟩ => ⟨I2.kIn, ?_⟩) he hpl)
  exact run_fnSD (E := fun σ cls d H => W cls d σ H) (dvs := []) (us := .ref a :: us) (vs := .ref a :: vs) G.ok (hr.mono hj) G.bd .nil (passes_at tk σ) I2 (.cons rfl r) (by rw [List.append_nil]; exact q2)
end
end Ssb

/-! Data of any form on the heap: None, bools, ints, texts, lists, tuples, dicts with int and text keys. -/
namespace Ssb
open PySem PySem.Spec PyProof.Rows L2
open Evl (Ex Ev EvT EvL EvA EvU)
inductive G where
  | non | bl (b : Bool) | int (i : Int) | str (s : Str) | lst (l : List G) | tup (l : List G) | dic (l : List (Key × G))
abbrev KG := Key × G
def kLen : Key → Nat
  | .inr s => s.length
  | .inl _ => 0
/-- how long a text may be where lists are no longer than m -/
def sB (m : Nat) : Nat := 4 ^ m
theorem sB_mono {m m' : Nat} (h : m ≤ m') : sB m ≤ sB m' := Nat.pow_le_pow_right (by decide) h
theorem sB_succ (m : Nat) : sB (m + 1) = 4 * sB m := by unfold sB; rw [Nat.pow_succ, Nat.mul_comm]
theorem sB_8 {m : Nat} (h : m ≤ 8) : sB m ≤ 65536 := sB_mono h
theorem sB_4 {m : Nat} (h : 4 ≤ m) : 256 ≤ sB m := sB_mono h
/-- keys of a dict: different, none longer than m -/
def okK (m : Nat) (l : List KG) : Prop := (l.map fun p : KG => p.1).Nodup ∧ ∀ p ∈ l, kLen p.1 ≤ sB m
/-- g stands at v: no deeper than n, nothing longer than m, its lists and dicts at places of S -/
def Rp (H : Hp) (m : Nat) : Nat → (Addr → Prop) → G → V → Prop
  | 0, _, _, _ => False
  | _ + 1, _, .non, v => v = .non
  | _ + 1, _, .bl b, v => v = .bl b
  | _ + 1, _, .int i, v => v = .int i
  | _ + 1, _, .str s, v => v = .str s ∧ s.length ≤ sB m
  | n + 1, S, .lst l, v => ∃ a xs, v = .ref a ∧ S a ∧ H a = some (.lst xs) ∧ l.length ≤ m ∧ Paired (fun d x => Rp H m n S d x) l xs
  | n + 1, S, .tup l, v => ∃ a xs, v = .ref a ∧ H a = some (.tup xs) ∧ l.length ≤ m ∧ Paired (fun d x => Rp H m n S d x) l xs
  | n + 1, S, .dic l, v => ∃ a es, v = .ref a ∧ S a ∧ H a = some (.dK es) ∧ l.length ≤ m ∧ okK m l ∧ Paired (fun (q : KG) (e : Key × V) => e.1 = q.1 ∧ Rp H m n (fun b => S b ∧ b ≠ a) q.2 e.2) l es
section
variable {H H' : Hp} {m m' : Nat}
theorem rp_to : ∀ {n : Nat} {S : Addr → Prop} {d : G} {v : V}, (∀ b o, H b = some o → (S b ∨ ∃ xs, o = .tup xs) → H' b = some o) → Rp H m n S d v → Rp H' m n S d v
  | 0, _, _, _, _, h => h.elim
  | n + 1, S, d, v, k, h => by
    cases d with
    | non => exact h
    | bl b => exact h
    | int i => exact h
    | str s => exact h
    | lst l =>
      obtain ⟨a, xs, e, s, ha, hl, p⟩ := h
      exact ⟨a, xs, e, s, k a _ ha (.inl s), hl, pair_imp p fun d x r => rp_to k r⟩
    | tup l =>
      obtain ⟨a, xs, e, ha, hl, p⟩ := h
      exact ⟨a, xs, e, k a _ ha (.inr ⟨xs, rfl⟩), hl, pair_imp p fun d x r => rp_to k r⟩
    | dic l =>
      obtain ⟨a, es, e, s, ha, hl, nd, p⟩ := h
      exact ⟨a, es, e, s, k a _ ha (.inl s), hl, nd, pair_imp p fun q x r => ⟨r.1, rp_to (fun b o hb z => k b o hb (z.imp (·.1) id)) r.2⟩⟩
theorem rp_ex {n : Nat} {S : Addr → Prop} {d : G} {v : V} (e : Ex H H') (h : Rp H m n S d v) : Rp H' m n S d v := rp_to (fun b o hb _ => e b o hb) h
theorem rp_S : ∀ {n : Nat} {S S' : Addr → Prop} {d : G} {v : V}, (∀ b, S b → S' b) → Rp H m n S d v → Rp H m n S' d v
  | 0, _, _, _, _, _, h => h.elim
  | n + 1, S, S', d, v, k, h => by
    cases d with
    | non => exact h
    | bl b => exact h
    | int i => exact h
    | str s => exact h
    | lst l =>
      obtain ⟨a, xs, e, s, ha, hl, p⟩ := h
      exact ⟨a, xs, e, k a s, ha, hl, pair_imp p fun d x r => rp_S k r⟩
    | tup l =>
      obtain ⟨a, xs, e, ha, hl, p⟩ := h
      exact ⟨a, xs, e, ha, hl, pair_imp p fun d x r => rp_S k r⟩
    | dic l =>
      obtain ⟨a, es, e, s, ha, hl, nd, p⟩ := h
      exact ⟨a, es, e, k a s, ha, hl, nd, pair_imp p fun q x r => ⟨r.1, rp_S (fun b z => ⟨k b z.1, z.2⟩) r.2⟩⟩
/-- deeper and longer -/
theorem rp_up : ∀ {n n' : Nat} {S : Addr → Prop} {d : G} {v : V}, n ≤ n' → m ≤ m' → Rp H m n S d v → Rp H m' n' S d v
  | 0, _, _, _, _, _, _, h => h.elim
  | n + 1, n', S, d, v, hn, hm, h => by
    obtain ⟨n', rfl⟩ : ∃ k, n' = k + 1 := ⟨n' - 1, by omega⟩
    have hn : n ≤ n' := by omega
    cases d with
    | non => exact h
    | bl b => exact h
    | int i => exact h
    | str s => exact ⟨h.1, Nat.le_trans h.2 (sB_mono hm)⟩
    | lst l =>
      obtain ⟨a, xs, e, s, ha, hl, p⟩ := h
      exact ⟨a, xs, e, s, ha, Nat.le_trans hl hm, pair_imp p fun d x r => rp_up hn hm r⟩
    | tup l =>
      obtain ⟨a, xs, e, ha, hl, p⟩ := h
      exact ⟨a, xs, e, ha, Nat.le_trans hl hm, pair_imp p fun d x r => rp_up hn hm r⟩
    | dic l =>
      obtain ⟨a, es, e, s, ha, hl, nd, p⟩ := h
      exact ⟨a, es, e, s, ha, Nat.le_trans hl hm, ⟨nd.1, fun p hp => Nat.le_trans (nd.2 p hp) (sB_mono hm)⟩, pair_imp p fun q x r => ⟨r.1, rp_up hn hm r.2⟩⟩
theorem rp_dom : ∀ {n : Nat} {S : Addr → Prop} {d : G} {v : V}, Rp H m n S d v → Rp H m n (fun b => S b ∧ H b ≠ none) d v
  | 0, _, _, _, h => h.elim
  | n + 1, S, d, v, h => by
    have some_ : ∀ {a : Addr} {o : HO}, H a = some o → H a ≠ none := fun {a o} h e => by rw [e] at h; cases h
    cases d with
    | non => exact h
    | bl b => exact h
    | int i => exact h
    | str s => exact h
    | lst l =>
      obtain ⟨a, xs, e, s, ha, hl, p⟩ := h
      exact ⟨a, xs, e, ⟨s, some_ ha⟩, ha, hl, pair_imp p fun d x r => rp_dom r⟩
    | tup l =>
      obtain ⟨a, xs, e, ha, hl, p⟩ := h
      exact ⟨a, xs, e, ha, hl, pair_imp p fun d x r => rp_dom r⟩
    | dic l =>
      obtain ⟨a, es, e, s, ha, hl, nd, p⟩ := h
      exact ⟨a, es, e, ⟨s, some_ ha⟩, ha, hl, nd, pair_imp p fun q x r => ⟨r.1, rp_S (fun b z => ⟨⟨z.1.1, z.2⟩, z.1.2⟩) (rp_dom r.2)⟩⟩
theorem rp_lock {n : Nat} {S : Addr → Prop} {d : G} {v : V} {a : Addr} {es : List (Key × V)} {u : HO} (ha : H a = some (.dK es)) (hS : ∀ b, S b → b ≠ a) (h : Rp H m n S d v) : Rp (upd H a u) m n S d v :=
  rp_to (fun b o hb z => by
    have ne : b ≠ a := by
      rcases z with z | ⟨xs, rfl⟩
      · exact hS b z
      · intro e; rw [e, ha] at hb; cases hb
    rw [upd_ne ne]; exact hb) h
theorem rp_upd {n : Nat} {S : Addr → Prop} {d : G} {v : V} {a : Addr} {o u : HO} (ha : H a = some o) (no : ∀ xs, o ≠ .tup xs) (hS : ∀ b, S b → b ≠ a) (h : Rp H m n S d v) : Rp (upd H a u) m n S d v :=
  rp_to (fun b o' hb z => by
    have ne : b ≠ a := by
      rcases z with z | ⟨xs, rfl⟩
      · exact hS b z
      · intro e; rw [e, ha] at hb; cases hb; exact no xs rfl
    rw [upd_ne ne]; exact hb) h
theorem rp_in {H1 H2 : Hp} {n : Nat} {S : Addr → Prop} {x : G} {v : V} {d : Addr} {es : List (Key × V)} {u : HO} (hd : H1 d = some (.dK es)) (e2 : Ex (upd H1 d u) H2) (h : Rp H1 m n (fun b => S b ∧ b ≠ d) x v) : Rp H2 m n (fun b => S b ∧ b ≠ d) x v :=
  rp_ex e2 (rp_lock hd (fun _ z => z.2) h)
theorem rp_pos {n : Nat} {S : Addr → Prop} {d : G} {v : V} (h : Rp H m n S d v) : ∃ k, n = k + 1 := by
  cases n with
  | zero => exact h.elim
  | succ n => exact ⟨n, rfl⟩
end
def kG : Key → G
  | .inr s => .str s
  | .inl i => .int i
theorem rp_key {H : Hp} {m n : Nat} {S : Addr → Prop} {k : Key} (h : kLen k ≤ sB m) : Rp H m (n + 1) S (kG k) (kV k) := by
  cases k with
  | inl i => exact (rfl : kV (Sum.inl i) = V.int i)
  | inr s => exact ⟨rfl, h⟩
/-! ### kinds -/
def gT : G → String
  | .non => "NoneType" | .bl _ => "bool" | .int _ => "int" | .str _ => "str" | .lst _ => "list" | .tup _ => "tuple" | .dic _ => "dict"
theorem rp_ty {K : PySem.W.Frag} {H : Hp} {m n : Nat} {S : Addr → Prop} {d : G} {v : V} (h : Rp H m n S d v) : TyOf K H v (.type (gT d)) := by
  obtain ⟨n, rfl⟩ := rp_pos h
  cases d with
  | non => have e : v = .non := h; subst e; exact .non
  | bl b => have e : v = .bl b := h; subst e; exact .bl b
  | int i => have e : v = .int i := h; subst e; exact .int i
  | str s => have e : v = .str s := h.1; subst e; exact .str s
  | lst l => obtain ⟨a, xs, rfl, _, ha, _⟩ := h; exact .lst ha
  | tup l => obtain ⟨a, xs, rfl, ha, _⟩ := h; exact .tup ha
  | dic l => obtain ⟨a, es, rfl, _, ha, _⟩ := h; exact .dK ha
/-- isinstance of a datum: what it says -/
def isK (g : G) (T : String) : Bool := (kitB (gT g) T).getD false
theorem kits : ∀ a ∈ ["NoneType", "bool", "int", "str", "list", "tuple", "dict"], ∀ b ∈ ["bool", "int", "str", "list", "tuple", "dict"], (kitB a b).isSome = true := by decide +kernel
theorem kit_some (g : G) {T : String} (h : T ∈ ["bool", "int", "str", "list", "tuple", "dict"]) : kitB (gT g) T = some (isK g T) := by
  have := kits (gT g) (by cases g <;> simp [gT]) T h
  unfold isK
  cases e : kitB (gT g) T with
  | none => rw [e] at this; cases this
  | some b => rfl
theorem ev_isG {K : PySem.W.Frag} {σ : L2.St} {H : Hp} {te : TE} {m n : Nat} {S : Addr → Prop} {d : G} {v : V} {T : String} (h : Ev te σ H v) (hr : Rp H m n S d v) (hT : T ∈ ["bool", "int", "str", "list", "tuple", "dict"] := by decide) : Ev (tCB (rIsi K) (tCons te (tCons (tC (.ty T)) tNil))) σ H (.bl (isK d T)) :=
  ev_isi h (fun H1 e1 => .base (rp_ty (rp_ex e1 hr))) (kit_ty (kit_some d hT))
/-! ### what a dict tells -/
def lkG (l : List KG) (k : Key) : Option G := (l.find? fun p => decide (p.1 = k)).map (·.2)
theorem lkG_cons (p : KG) (l : List KG) (k : Key) : lkG (p :: l) k = if p.1 = k then some p.2 else lkG l k := by
  unfold lkG
  rw [List.find?_cons]
  by_cases h : p.1 = k
  · rw [decide_eq_true h, if_pos h]; rfl
  · rw [decide_eq_false h, if_neg h]
theorem pair_lkG {F : G → V → Prop} : ∀ {l : List KG} {es : List (Key × V)}, Paired (fun (q : KG) (e : Key × V) => e.1 = q.1 ∧ F q.2 e.2) l es → ∀ k, (∃ d v, lkG l k = some d ∧ valV es k = some v ∧ F d v) ∨ (lkG l k = none ∧ valV es k = none)
  | _, _, .nil, k => .inr ⟨rfl, rfl⟩
  | q :: l, e :: es, .cons h t, k => by
    rw [lkG_cons, vV_cons, h.1]
    by_cases c : q.1 = k
    · rw [if_pos c, if_pos c]; exact .inl ⟨_, _, rfl, rfl, h.2⟩
    · rw [if_neg c, if_neg c]; exact pair_lkG t k
theorem lkG_mem : ∀ {l : List KG} {k : Key} {d : G}, lkG l k = some d → (k, d) ∈ l
  | p :: l, k, d, h => by
    rw [lkG_cons] at h
    by_cases c : p.1 = k
    · rw [if_pos c] at h; cases h; rw [← c]; exact List.mem_cons_self
    · rw [if_neg c] at h; exact List.mem_cons_of_mem _ (lkG_mem h)
theorem lkG_of : ∀ {l : List KG} {k : Key} {d : G}, (l.map fun p : KG => p.1).Nodup → (k, d) ∈ l → lkG l k = some d
  | p :: l, k, d, nd, h => by
    rw [List.map_cons, List.nodup_cons] at nd
    rw [lkG_cons]
    rcases List.mem_cons.mp h with h | h
    · subst h; rw [if_pos rfl]
    · rw [if_neg, lkG_of nd.2 h]
      intro e
      exact nd.1 (e ▸ List.mem_map.mpr ⟨_, h, rfl⟩)
theorem pair_keysG {F : KG → Key × V → Prop} {l : List KG} {es : List (Key × V)} (h : Paired (fun p e => e.1 = p.1 ∧ F p e) l es) : (es.map fun e : Key × V => e.1) = l.map fun p : KG => p.1 := by
  induction h with
  | nil => rfl
  | cons h t ih => rw [List.map_cons, List.map_cons, ih, h.1]
theorem valV_atK : ∀ {es : List (Key × V)} {i : Nat} {k : Key} {v : V}, (es.map fun e : Key × V => e.1).Nodup → es[i]? = some (k, v) → valV es k = some v
  | [], i, k, v, _, h => by simp at h
  | e :: es, 0, k, v, _, h => by
    simp at h; subst h
    rw [vV_cons, if_pos rfl]
  | e :: es, i + 1, k, v, nd, h => by
    have h2 : es[i]? = some (k, v) := by simpa using h
    rw [List.map_cons, List.nodup_cons] at nd
    rw [vV_cons, if_neg, valV_atK nd.2 h2]
    intro z
    refine nd.1 ?_
    rw [z]
    exact List.mem_map.mpr ⟨(k, v), List.mem_of_getElem? h2, rfl⟩
theorem vK_no : ∀ {es : List (Key × V)} {k : Key}, k ∉ (es.map fun e : Key × V => e.1) → valV es k = none
  | [], _, _ => rfl
  | e :: es, k, h => by
    rw [vV_cons, if_neg (fun z => h (by rw [← z]; exact List.mem_cons_self))]
    exact vK_no fun z => h (List.mem_cons_of_mem _ z)
/-! ### from data with text keys -/
mutual
def emb : D → G
  | .non => .non | .bl b => .bl b | .int i => .int i | .str s => .str s | .lst l => .lst (embL l) | .tup l => .tup (embL l) | .dic l => .dic (embD l)
def embL : List D → List G
  | [] => [] | d :: l => emb d :: embL l
def embD : List (Str × D) → List KG
  | [] => [] | p :: l => (Sum.inr p.1, emb p.2) :: embD l
end
theorem embL_eq : ∀ l : List D, embL l = l.map emb
  | [] => by rw [embL]; rfl
  | d :: l => by rw [embL, embL_eq l]; rfl
theorem embD_eq : ∀ l : List (Str × D), embD l = l.map fun p => ((Sum.inr p.1, emb p.2) : KG)
  | [] => by rw [embD]; rfl
  | d :: l => by rw [embD, embD_eq l]; rfl
/-- nothing longer than m, no name twice -/
def szD (m : Nat) : Nat → D → Prop
  | n + 1, .str s => s.length ≤ sB m
  | n + 1, .lst l => l.length ≤ m ∧ ∀ x ∈ l, szD m n x
  | n + 1, .tup l => l.length ≤ m ∧ ∀ x ∈ l, szD m n x
  | n + 1, .dic l => l.length ≤ m ∧ (l.map (·.1)).Nodup ∧ ∀ p ∈ l, p.1.length ≤ sB m ∧ szD m n p.2
  | _, _ => True
theorem pair_map2 {α β γ δ : Type} {F : α → β → Prop} {F' : γ → δ → Prop} {f : α → γ} {g : β → δ} : ∀ {l : List α} {k : List β}, Paired F l k → (∀ a ∈ l, ∀ b, F a b → F' (f a) (g b)) → Paired F' (l.map f) (k.map g)
  | _, _, .nil, _ => .nil
  | _, _, .cons h t, k => .cons (k _ List.mem_cons_self _ h) (pair_map2 t fun a ha b hb => k a (List.mem_cons_of_mem _ ha) b hb)
theorem rp_emb {H : Hp} {m : Nat} : ∀ {n : Nat} {S : Addr → Prop} {d : D} {v : V}, Rep H n S d v → szD m n d → Rp H m n S (emb d) v
  | 0, _, _, _, h, _ => h.elim
  | n + 1, S, d, v, h, z => by
    cases d with
    | non => rw [emb]; exact h
    | bl b => rw [emb]; exact h
    | int i => rw [emb]; exact h
    | str s => rw [emb]; exact ⟨h, z⟩
    | lst l =>
      obtain ⟨a, xs, e, s, ha, hl, p⟩ := h
      rw [emb, embL_eq]
      refine ⟨a, xs, e, s, ha, by rw [List.length_map]; exact z.1, ?_⟩
      have := pair_map2 (F' := fun d x => Rp H m n S d x) (f := emb) (g := _root_.id) p fun d hd x r => rp_emb r (z.2 d hd)
      rw [List.map_id] at this; exact this
    | tup l =>
      obtain ⟨a, xs, e, ha, hl, p⟩ := h
      rw [emb, embL_eq]
      refine ⟨a, xs, e, ha, by rw [List.length_map]; exact z.1, ?_⟩
      have := pair_map2 (F' := fun d x => Rp H m n S d x) (f := emb) (g := _root_.id) p fun d hd x r => rp_emb r (z.2 d hd)
      rw [List.map_id] at this; exact this
    | dic l =>
      obtain ⟨a, es, e, s, ha, hl, p⟩ := h
      rw [emb, embD_eq]
      refine ⟨a, es, e, s, ha, by rw [List.length_map]; exact z.1, ?_, ?_⟩
      · refine ⟨?_, fun p hp => ?_⟩
        · have : ((l.map fun p => ((Sum.inr p.1, emb p.2) : KG)).map fun p : KG => p.1) = (l.map (·.1)).map Sum.inr := by rw [List.map_map, List.map_map]; rfl
          rw [this]
          exact List.Pairwise.map _ (fun a b h z => h (Sum.inr.inj z)) z.2.1
        · obtain ⟨q, hq, rfl⟩ := List.mem_map.mp hp
          exact (z.2.2 q hq).1
      · have := pair_map2 (F' := fun (q : KG) (e : Key × V) => e.1 = q.1 ∧ Rp H m n (fun b => S b ∧ b ≠ a) q.2 e.2) (f := fun p : Str × D => ((Sum.inr p.1, emb p.2) : KG)) (g := fun e : Key × V => e) p fun q hq x r => (show x.1 = Sum.inr q.1 ∧ Rp H m n (fun b => S b ∧ b ≠ a) (emb q.2) x.2 from ⟨r.1, rp_emb r.2 (z.2.2 q hq).2⟩)
        rw [List.map_id'] at this; exact this
end Ssb

/-! C(..) that may raise, at the caller's slots; try with two clauses, the first of which never fits, the second kept. -/
namespace Ssb
open PySem PySem.Spec L2 PyProof.Rows
def tMakeS (C : Addr) (sp : Sp) (W : WX) (t : TA) : TE := fun σ H Q => t σ H fun vs H1 => ∀ x dx, H1 x = none → H1 dx = none → dx ≠ x →
  sp (.ref x :: vs) (upd (upd H1 dx (.own x)) x (.ins C dx [])) (fun v H2 => v = .non ∧ Q (.ref x) H2) fun cls d H' => W cls d σ H'
section
variable {X : Cx} {W : WX} {nm : Str} {k j : Nat} {ps : List Str} {sp : Sp} {f C : Addr} {fd : FuncData} {p pos : Pos} {e : Expr} {es : List Expr} {t : TA}
theorem pmkX (G : MtX X.prog X.w X.K X.mg X.base C "__init__" k ps sp f fd) (tk : Takes X W) (h1 : PySem.W.makesIn X.K C = true) (h2 : PySem.W.keepIn X.K (.ref C) = true) (h3 : X.mg nm = some (.ref C)) (hr : Room j X.A) (ha : PA X (e :: es) t) (hj : k + 1 ≤ j := by first | decide | omega) (hg : Gl X nm := by rfl) (hdb : (nm == ("__debug__" : Str)) = false := by decide)
    (he : starEach (e :: es) X.env = (false, eval e X.env) :: starEach es X.env := by rfl) (hpl : (backTo pos (starEach es X.env)).any (·.1) = false := by rfl) : PE X (.Call (.Name nm p) (e :: es) [] pos) (tMakeS C sp W t) := by
  refine ⟨fun pins s σ H Q I h => wpAny_Call_Name_kw (ld_glob I hg h3 (PySem.W.callWith_K (h₀ := X.base) I.ok.mod.kin h2 (thn (ha.run pos pins s σ H _ I h) fun us s1 ⟨vs, H1, I1, r, q⟩ => ⟨I1.kIn, ?_⟩) he hpl) hdb)⟩
  have young := q (s1.heap.objs.size + 1) s1.heap.objs.size (I1.hok.fresh (Nat.le_succ _)) (I1.hok.fresh (Nat.le_refl _)) (Nat.ne_of_lt (Nat.lt_succ_self _))
  have J := Inv.made (C := C) I1
  have rel : Vals (V.ref (s1.heap.objs.size + 1) :: vs) (Value.ref (s1.heap.objs.size + 1) :: us) := .cons rfl r
  have len : (Value.ref (s1.heap.objs.size + 1) :: us ++ []).length = ps.length := by rw [List.append_nil, ← rel.length, G.ok.len _ _ _ _ young]
  have bnd := G.bd _ (Value.ref (s1.heap.objs.size + 1) :: us) J.kIn len
  rw [List.append_nil] at bnd
  show wpAny _ _ (call (.ref C) us) _ _ _
  refine wpAny_call (make_map (f := f) I1.kIn h1 G.mt.at_ (beq_iff_eq.mp G.mt.fn) (codeAny_mono (G.ok.run _ X.stack _ _ ⟨Value.ref (s1.heap.objs.size + 1) :: us, []⟩ _ _ _ _ ((hr.mono hj).make C us []) (J.env0.make C us []) bnd rel young) fun res s2 after => ?_))
  cases res with
  | error er => exact passes_at tk σ pins _ _ er s2 J after
  | ok fl =>
    cases fl with
    | ret u =>
      obtain ⟨v, H', I3, rv, ev, q3⟩ := J.after after
      subst ev
      exact ⟨rv, ⟨V.ref (s1.heap.objs.size + 1), H', I3, rfl, q3⟩⟩
    | next => exact False.elim after
    | brk => exact False.elim after
    | cont => exact False.elim after
end
section
variable {X : Cx} {x0 x n : Str} {c0 c : Value} {i : Nat} {body suite suite0 : List Stmt} {b0 b₀ : Stmt} {np0 np pos pos0 pos' : Pos} {tb : WX → TS} {ts : Addr → Value → Option Addr → TS} {Wout : WX}
/-- the first clause is asked and does not fit -/
def wSkip (K : PySem.W.Frag) (c0 : Value) (W : WX) : WX := fun cls d σ H => PySem.W.exmOne K cls c0 = some false ∧ W cls d σ H
theorem ps_try_keep2 (hs : X.stack = X.env :: X.outer) (hf : X.env.frame = some X.env.locals) (hN : X.N.Nodup) (hi : X.N[i]? = some n) (hln : X.env.kindOf n = some .local) (hc0 : Names X x0 c0) (hc : Names X x c) (tk : Takes X Wout)
    (hb : ∀ (W : WX) (pn : List (Addr × Obj)) (xe : Value → Shared → Prop), Takes (X.tr pn xe) W → PassesOwn (model X.prog X.w) X.A X.env xe → PSs (X.tr pn xe) body (tb W))
    (hsu : ∀ (a : Addr) (oe : Obj) (cls : Value) (d : Option Addr) (pn : List (Addr × Obj)), Zc cls d oe → (∃ vs, oe.data = .fields vs) → PSs (X.suite a ((a, oe) :: pn)) (b₀ :: suite) (ts a cls d)) :
    PS X (.Try body [.ExceptHandler (some (.Name x0 np0)) none (b0 :: suite0) pos0, .ExceptHandler (some (.Name x np)) (some n) (b₀ :: suite) pos'] [] [] pos) (fun D σ H => tb (wSkip X.K c0 (wKeep X.K c i ts Wout D)) D σ H) := by
  refine ⟨fun pins s σ H D I h => ?_⟩
  have ok := I.ok
  have fr0 : X.A.frames = some (X.env :: X.outer) := by rw [ok.frames, hs]
  refine wpAny_Try_except (wpAny_mono ((hb (wSkip X.K c0 (wKeep X.K c i ts Wout D)) (X.pn ++ pins) (fun e s₁ => wpAny (model X.prog X.w) X.A (noteFrame e X.env) (fun _ s₂ => wpAny (model X.prog X.w) X.A (setFlight e none) (fun _ s₃ => wpAny (model X.prog X.w) X.A (handleBy e X.env [.ExceptHandler (some (.Name x0 np0)) none (b0 :: suite0) pos0, .ExceptHandler (some (.Name x np)) (some n) (b₀ :: suite) pos']) (SP X pins D) X.xe s₃) X.xe s₂) X.xe s₁) (fun u s' xx => ?_) PassesOwn.looking).run [] s σ H D (I.toTry _) h) (fun f s1 hsp => ?_) (fun e s1 he => he))
  · obtain ⟨a, B, sI, pins', σ1, HH, cls, d, rfl, J0, nb, up, sky, na, os, ag, hb0, b, hb1, hyes, hno⟩ := xx
    have J : Inv X pins σ1 HH sI := J0.ofTry ok
    rw [show (X.tr (X.pn ++ pins) _).stack = X.env :: X.outer from hs] at sky
    refine Sky.land Zc.steady fr0 hf sky fun h3 fl3 up3 => ?_
    have J3 : Inv X pins σ1 HH { s' with heap := h3 } := J.landed nb fl3.1 (up.trans up3) os ag
    obtain ⟨oe3, vs3, he3, hz3, hd3⟩ := fl3.there
    have nfr : a ∉ frs (X.env :: X.outer) := fun hm => by
      obtain ⟨_, o', e', hnf⟩ := fl3.2.2.1.mem hm
      rw [he3] at e'; cases e'; exact hnf _ hd3
    have nL : a ≠ X.env.locals := fun z => nfr (List.mem_filterMap.mpr ⟨X.env, List.mem_cons_self, (by rw [hf, z])⟩)
    have nF : a ∉ X.fs := fun hm => (List.mem_filterMap.mp hm).elim fun e he => nfr (List.mem_filterMap.mpr ⟨e, List.mem_cons_of_mem _ he.1, he.2⟩)
    have young : sI.heap.get? a = none := by
      cases hg : sI.heap.get? a with
      | none => rfl
      | some o =>
        have := nb a o hg (by rw [show (X.tr (X.pn ++ pins) _).stack = X.env :: X.outer from hs]; exact nfr)
        rw [fl3.2.1] at this; cases this
    have n0 : ∀ b o, X.s_0.heap.get? b = some o → b ∉ X.ex → b ≠ a := fun b o q hx z => by
      obtain ⟨o', h'⟩ := J.base.there b o q hx
      rw [z, young] at h'; cases h'
    have np0 : ∀ p ∈ X.pn ++ pins, p.1 ≠ a := fun p hp z => by
      have := (J.pin p hp).1
      rw [z, young] at this; cases this
    have S3 := J3.suite he3 hd3 na nL nF
    have looks : PySem.W.Looks (model X.prog X.w) h3 (typeOf (.ref a)) cls := fun A Q E s k q => wpAny_typeOf_ref (k _ _ he3) (by rw [hz3.1]; exact q)
    have LM := PySem.W.exm_one (M := model X.prog X.w) J3.kIn looks hb1
    have LM0 := PySem.W.exm_one (M := model X.prog X.w) J3.kIn looks hb0
    have ask : ∀ {y : Str} {cy : Value} {npy : Pos}, Names X y cy → ∀ {Q : Value → Shared → Prop} {E : Value → Shared → Prop}, Q cy { s' with heap := h3 } → wpAny (model X.prog X.w) (X.A.mark (some (.ref a))) (eval (.Name y npy) X.env) Q E { s' with heap := h3 } := fun {y cy npy} hy {Q E} q => by
      obtain ⟨hg, hdb, hm | ⟨hm, hv, hnn⟩⟩ := hy
      · exact ld_glob S3 hg hm q hdb
      · exact ld_blt S3 hg hm hv q hnn hdb
    refine wpAny_handleBy_cons (codeAny_handlers_test (ask hc0 (LM0.here ?_))) (by intro q; cases q)
    show wpAny _ X.A (handleBy (.ref a) X.env [.ExceptHandler (some (.Name x np)) (some n) (b₀ :: suite) pos']) _ _ _
    refine wpAny_handleBy_cons (codeAny_handlers_test (ask hc (LM.here ?_))) (by intro q; cases q)
    cases b with
    | true =>
      refine codeAny_handlers_suite_as (HandSPX.lands_againZ fl3 fun h4 fl4 up4 => ?_)
      have J4 : Inv X pins σ1 HH { s' with heap := h4 } := J.landed nb fl4.1 ((up.trans up3).trans up4) os ag
      obtain ⟨oe4, vs4, he4, hz4, hd4⟩ := fl4.there
      refine store_ok (X := X.suite a ((a, oe4) :: (X.pn ++ pins))) (v := .ref a) (J4.suite he4 hd4 na nL nF) hN hi (.inl hln) rfl (fun s5 S5 => ?_) (.inr hln)
      refine wpAny_mono ((hsu a oe4 cls d (X.pn ++ pins) hz4 ⟨_, hd4⟩).run [] s5 _ HH _ S5 (hyes rfl a na)) (fun f s6 hsp => ?_) (fun _ _ z => False.elim z)
      have fin : ∀ {σ6 : L2.St} {H6 : Hp} {Q : Shared → Prop}, Inv (X.suite a ((a, oe4) :: (X.pn ++ pins))) [] σ6 H6 s6 → (∀ s7, Inv X pins (σ6.set i none) (upd H6 a (exk a cls d)) s7 → Q s7) →
          wpAny (model X.prog X.w) X.A (do bindName X.env n .none; unbindBehindTheSuite X.env n pos') (fun _ s7 => Q s7) X.xe s6 := fun {σ6 H6 Q} S6 hq => by
        have I6 : Inv X ((a, oe4) :: pins) σ6 H6 s6 := ⟨ok, S6.os, S6.bare, S6.base, S6.loc, S6.cell, S6.free, S6.freeC, fun p hp => S6.pin p (by
          rw [List.append_nil]
          rcases List.mem_append.mp hp with h | h
          · exact List.mem_cons_of_mem _ (List.mem_append_left _ h)
          · rcases List.mem_cons.mp h with h | h
            · rw [h]; exact List.mem_cons_self
            · exact List.mem_cons_of_mem _ (List.mem_append_right _ h)), S6.hok, S6.len⟩
        exact gone_ok I6 hN hi hln fun s7 J7 => hq s7 (adopt J7 hd4 hz4 n0 np0)
      cases f with
      | ret u => obtain ⟨v6, σ6, H6, S6, r6, q6⟩ := hsp; exact fin S6 fun s7 J7 => ⟨_, _, _, J7, r6, q6⟩
      | next => obtain ⟨σ6, H6, S6, q6⟩ := hsp; exact fin S6 fun s7 J7 => ⟨_, _, J7, q6⟩
      | brk => obtain ⟨σ6, H6, S6, q6⟩ := hsp; exact fin S6 fun s7 J7 => ⟨_, _, J7, q6⟩
      | cont => obtain ⟨σ6, H6, S6, q6⟩ := hsp; exact fin S6 fun s7 J7 => ⟨_, _, J7, q6⟩
    | false =>
      show wpAny _ X.A (handleBy (.ref a) X.env []) _ _ _
      obtain ⟨k1, k2, k3, oe, vs, T, oT, ts', he, hz, hd, h1, hr⟩ := id fl3
      refine wpAny_handleBy_nil ?_
      unfold PySem.passOn
      refine wpAny_bind (wpAny_field he hd h1 ?_)
      rw [if_neg (show ¬ ((Value.ref T == Value.none) = true) by simp)]
      have go : wpAny (model X.prog X.w) X.A (setFlight (.ref a) X.env.frame) (fun _ s4 => wpAny (model X.prog X.w) X.A (throw (.ref a) : Sem Flow) (SP X pins D) X.xe s4) X.xe { s' with heap := h3 } := by
        rw [hf]
        exact HandSPX.setFlight_upZ fl3 fun h4 hh4 up4 => wpAny_throw (tk _ _ ⟨a, B, sI, pins, σ1, HH, cls, d, rfl, J, nb, (up.trans up3).trans up4, .inr (.inr (by rw [hs]; exact hh4)), na, os, ag, hno rfl⟩)
      first
        | exact wpAny_bind go
        | exact wpAny_bind (wpAny_pure (wpAny_bind go))
  · cases f with
    | ret u => obtain ⟨v, σ1, HH, J, r, q⟩ := hsp; exact ⟨v, σ1, HH, J.ofTry ok, r, q⟩
    | next => obtain ⟨σ1, HH, J, q⟩ := hsp; exact wpAny_execs_nil ⟨σ1, HH, J.ofTry ok, q⟩
    | brk => obtain ⟨σ1, HH, J, q⟩ := hsp; exact ⟨σ1, HH, J.ofTry ok, q⟩
    | cont => obtain ⟨σ1, HH, J, q⟩ := hsp; exact ⟨σ1, HH, J.ofTry ok, q⟩
end
end Ssb

/-! list(reversed(a list)) as one expression. -/
namespace Ssb
open PySem PySem.Spec PyProof.Rows L2 RT
section
variable {pr : Program} {wd : World} {Ar : Around} {Er : Value → Shared → Prop} {st : Shared}
/-- a fresh list taking what the walker over l, from its end, hands out -/
theorem ext_rev {R : Result → Shared → Prop} {it l S : Addr} {vs : Array Value} (hh : Ar.handled = none) (hit : st.heap.IsRevIter it l ((vs.size : Int) - 1)) (hl : st.heap.IsList l vs) (n1 : l ≠ it) (n2 : S ≠ it) (n3 : S ≠ l) (hn : vs.size ≤ sizeLine)
    (res : Value) (c₀ : Nat) (hS : st.heap.get? S = some { cls := .type "list", data := .seq #[] c₀ })
    (k : ∀ (h' : Heap) (tk : Nat) (acc : Array Value) (c' : Nat), (∀ b o, b ≠ S → b ≠ it → st.heap.get? b = some o → h'.get? b = some o) → h'.get? S = some { cls := .type "list", dict := none, data := .seq acc c', slots := #[] } →
      ItemsOf (fun i v => vs[vs.size - 1 - i]? = some v) acc vs.size → R (.ok (.ret res)) { st with heap := h', toks := tk }) :
    wpAny (model pr wd) Ar.in1 (Builtin.List.listExtendWith (.ref S) (.ref it) res) (fun fin z => match fin with | .done f => R (.ok f) z | .again c' => c'.quiet = true ∧ codeAny (model pr wd) Ar c' R z) (fun e z => R (.error e) z) st := by
  have W := (Walks.listRev (prog := pr) (w := wd) (A := Ar.in1) hh it l n1 vs).toS
  have out : S ∉ [it, l] := by simp [n2, n3]
  have ht : st.TypeIs (.ref it) "list_reverseiterator" := hit.typeIs
  have ns : Builtin.List.listSameRef (.ref S) (.ref it) = false := by simp [Builtin.List.listSameRef, n2]
  unfold Builtin.List.listExtendWith
  refine wpAny_bind (wpAny_typeOf ht ?_)
  rw [if_neg (by rw [ns]; decide)]
  refine wpAny_bind (wpAny_pyIter_revIter hit (wpAny_bind (wpAny_holding ?_)))
  unfold Builtin.List.listLengthHint
  refine wpAny_bind (wpAny_specialOf ht nolen_lri ?_)
  show wpAny _ _ (specialOf (.ref it) (Str.ofString "__length_hint__") >>= _) _ _ _
  refine wpAny_bind (wpAny_specialOf ht hint_lri ?_)
  generalize hid : ("list_reverseiterator.__length_hint__" : String) = hintName
  wp_delta
  rw [show splitId hintName = some ("list_reverseiterator", "__length_hint__") from by rw [← hid]; decide +kernel]
  subst hid
  refine wpAny_bind (wpAny_isInstance (b := true) ht (by rw [isSubtype_type]; kernel_rfl) (wpAny_pure ?_))
  rw [if_neg (by decide)]
  have e0 : (vs.size : Int) - 1 = (vs.size : Int) - 1 - ((0 : Nat) : Int) := by omega
  rw [e0] at hit
  refine wpAny_pure ⟨plainId_quiet F.plain_extend_loop _, codeAny_extend_loopS W hn S out res vs.size 0 _ _ _ rfl (Nat.zero_le _) ⟨Nat.zero_le _, hit, hl⟩ hS (ItemsOf.nil _) fun z acc c' mv hz hi => ?_⟩
  rw [Moved.eq_with mv]
  exact k z.heap z.toks acc c' (fun b o b1 b2 e => mv.heap b o (by simp [b1, b2]) e) hz hi
theorem list_init_rev {R : Result → Shared → Prop} {it l S : Addr} {vs : Array Value} (hh : Ar.handled = none) (hit : st.heap.IsRevIter it l ((vs.size : Int) - 1)) (hl : st.heap.IsList l vs) (n1 : l ≠ it) (n2 : S ≠ it) (n3 : S ≠ l) (hn : vs.size ≤ sizeLine)
    (hS : st.heap.get? S = some { cls := .type "list", data := .seq #[] })
    (k : ∀ (h' : Heap) (tk : Nat) (acc : Array Value) (c' : Nat), (∀ b o, b ≠ S → b ≠ it → st.heap.get? b = some o → h'.get? b = some o) → h'.get? S = some { cls := .type "list", dict := none, data := .seq acc c', slots := #[] } →
      ItemsOf (fun i v => vs[vs.size - 1 - i]? = some v) acc vs.size → R (.ok (.ret .none)) { st with heap := h', toks := tk }) :
    wpAny (model pr wd) Ar.in1 (Builtin.«list.__init__» ⟨[.ref S, .ref it], []⟩) (fun fin z => match fin with | .done f => R (.ok f) z | .again c' => c'.quiet = true ∧ codeAny (model pr wd) Ar c' R z) (fun e z => R (.error e) z) st := by
  show wpAny _ _ (Builtin.List.listItems (.ref S) >>= fun old => Builtin.List.listUpdate (.ref S) (fun _ => #[]) >>= fun _ => letGo old.toList.reverse >>= fun _ => Builtin.List.listExtendWith (.ref S) (.ref it) .none) _ _ st
  refine wpAny_bind ?_
  unfold Builtin.List.listItems
  refine wpAny_bind (wpAny_seqItems hS rfl (wpAny_pure (wpAny_bind ?_)))
  show wpAny _ _ (updateSeq S fun _ => #[]) _ _ _
  have kept : ∀ b o, b ≠ S → st.heap.get? b = some o → (st.heap.update S (Obj.mapSeq fun _ => (#[] : Array Value))).get? b = some o := fun b o hb e => (Heap.get?_update_other _ _ (Ne.symm hb)).trans e
  refine wpAny_updateSeq hS rfl (wpAny_bind (wpAny_letGo ?_))
  exact ext_rev hh (hit.at fun o e => kept it o (Ne.symm n2) e) (hl.at fun o e => kept l o (Ne.symm n3) e) n1 n2 n3 hn .none _ (Heap.get?_update_self (Obj.mapSeq fun _ => (#[] : Array Value)) hS rfl) fun h' tk acc c' q => k h' tk acc c' fun b o b1 b2 e => q b o b1 b2 (kept b o b1 e)
theorem call_list_rev {Q : Value → Shared → Prop} {it l : Addr} {vs : Array Value} (hh : Ar.handled = none) (hit : st.heap.IsRevIter it l ((vs.size : Int) - 1)) (hl : st.heap.IsList l vs) (n1 : l ≠ it) (hn : vs.size ≤ sizeLine)
    (k : ∀ (h' : Heap) (tk : Nat) (acc : Array Value) (c' : Nat), (∀ b o, b ≠ it → st.heap.get? b = some o → h'.get? b = some o) → h'.get? st.heap.objs.size = some { cls := .type "list", dict := none, data := .seq acc c', slots := #[] } →
      ItemsOf (fun i v => vs[vs.size - 1 - i]? = some v) acc vs.size → Q (.ref st.heap.objs.size) { st with heap := h', toks := tk }) : wpAny (model pr wd) Ar (call (.type "list") [.ref it]) Q Er st := by
  obtain ⟨oi, hoi, _⟩ := id hit
  obtain ⟨ol, hol, _⟩ := id hl
  refine callType_codes (Q₁ := fun u z => u = .ref st.heap.objs.size ∧ z = { st with heap := st.heap.push { cls := .type "list", data := .seq #[] } }) F.called_list (F.typeCall_list_1 _) F.entry_list_init (code_list_new _ ⟨rfl, rfl⟩) ?_
  rintro u z ⟨rfl, rfl⟩
  have hS : (st.heap.push { cls := .type "list", data := .seq #[] }).get? st.heap.objs.size = some { cls := .type "list", data := .seq #[] } := Heap.get?_push_size _ rfl
  refine ⟨⟨_, hS, rfl⟩, F.args_list_init_2 _ _, list_init_rev (Ar := Ar.in1) (it := it) (l := l) (vs := vs) hh (hit.at fun o e => Heap.get?_push_of_some _ e) (hl.push _) n1 (Nat.ne_of_gt (Heap.lt_size hoi)) (Nat.ne_of_gt (Heap.lt_size hol)) hn hS fun h' tk acc c' q hz hi => ⟨rfl, ?_⟩⟩
  exact k h' tk acc c' (fun b o hb e => q b o (Nat.ne_of_lt (Heap.lt_size e)) hb (Heap.get?_push_of_some _ e)) hz hi
end
/-- list(reversed(e)), e a list -/
def tLstRev (K : PySem.W.Frag) (te : TE) : TE := fun σ H Q => te σ H fun x H1 => ∃ (a : Addr) (xs : List V), x = .ref a ∧ SqL K H1 a xs ∧ ∀ p, H1 p = none → Q (.ref p) (upd H1 p (.lst xs.reverse))
section
variable {X : Cx}
theorem pe_lstRev {e : Expr} {te : TE} {q1 q2 c1 c2 : Pos} (hc : X.calm = true) (g1 : Gl X "list") (m1 : X.mg "list" = none) (g2 : Gl X "reversed") (m2 : X.mg "reversed" = none) (he : PE X e te)
    (h1 : starEach [e] X.env = (false, eval e X.env) :: starEach [] X.env := by rfl)
    (h2 : starEach [.Call (.Name "reversed" q2) [e] [] c2] X.env = (false, eval (.Call (.Name "reversed" q2) [e] [] c2) X.env) :: starEach [] X.env := by rfl) :
    PE X (.Call (.Name "list" q1) [.Call (.Name "reversed" q2) [e] [] c2] [] c1) (tLstRev X.K te) := by
  refine ⟨fun pins s σ H Q I h => ?_⟩
  refine Call_ (ld_blt I g1 m1 boot_list (PyProof.Rows.callWith_type1 (args_cons ?_ h2) h2 rfl))
  refine Call_ (ld_blt I g2 m2 PyProof.Rows.boot_reversed (PyProof.Rows.callWith_type1 (args_cons ?_ h1) h1 rfl))
  refine thn (he.run pins s σ H _ I h) fun u s1 ⟨v, H1, I1, r1, a, xs, ev, hq, q⟩ => args_nil ?_
  subst ev
  obtain rfl : u = Value.ref a := r1
  obtain ⟨its, rv, pl, hz⟩ := I1.list hq
  have il := pl.isList
  obtain ⟨ol, hol, _⟩ := id il
  refine call_reversed_list il (args_nil ?_)
  have I2 : Inv X pins σ H1 { s1 with heap := s1.heap.push (revObj a ((its.toArray.size : Int) - 1)) } := I1.kept (t' := s1.toks) fun b o e => Heap.get?_push_of_some _ e
  obtain ⟨f0, f1, f2, f3, f4, f5⟩ := I1.fpOk (H' := H1) (b := s1.heap.objs.size) (Nat.le_refl _) (I1.hok.fresh (Nat.le_refl _))
  have small : its.toArray.size ≤ sizeLine := by rw [List.size_toArray, ← rv.length]; exact hz
  refine call_list_rev (st := { s1 with heap := s1.heap.push (revObj a ((its.toArray.size : Int) - 1)) }) (it := s1.heap.objs.size) (l := a) (vs := its.toArray) (I1.ok.hd hc) ⟨_, Heap.get?_push_size _ rfl, rfl, rfl⟩ (il.push _) (Nat.ne_of_lt (Heap.lt_size hol)) small fun h' tk acc c' hk hz' hi => ?_
  have all : ∀ b o, s1.heap.get? b = some o → h'.get? b = some o := fun b o e => hk b o (Nat.ne_of_lt (Heap.lt_size e)) (Heap.get?_push_of_some _ e)
  have lo : s1.heap.objs.size ≤ (s1.heap.push (revObj a ((its.toArray.size : Int) - 1))).objs.size := by
    show s1.heap.objs.size ≤ (s1.heap.objs.push _).size
    rw [Array.size_push]; omega
  exact ⟨.ref _, upd H1 _ (.lst xs.reverse), I1.laid (t' := tk) all lo (show ObjOk X.prog X.w _ _ _ (.lst xs.reverse) from ⟨by rw [List.length_reverse]; exact hz, acc.toList, c', vals_rev rv hi, by rw [Array.toArray_toList]; exact hz'⟩), rfl, q _ (I1.hok.fresh lo)⟩
end
end Ssb

/-! Values of any form: there is a datum that stands there. -/
namespace Ssb
open PySem PySem.Spec PyProof.Rows L2
open Evl (Ex Ev EvT EvL EvA EvU)
def Gv (m n : Nat) (Z : Addr → Prop) (H : Hp) (v : V) : Prop := ∃ g, Rp H m n Z g v
theorem pair_choose {α β : Type} {F : α → β → Prop} : ∀ {xs : List β}, (∀ x ∈ xs, ∃ d, F d x) → ∃ l, Paired F l xs
  | [], _ => ⟨[], .nil⟩
  | x :: xs, h => by
    obtain ⟨d, hd⟩ := h x List.mem_cons_self
    obtain ⟨l, hl⟩ := pair_choose fun y hy => h y (List.mem_cons_of_mem _ hy)
    exact ⟨d :: l, .cons hd hl⟩
theorem pair_memB {α β : Type} {F : α → β → Prop} {l : List α} {k : List β} (p : Paired F l k) : ∀ y ∈ k, ∃ x ∈ l, F x y := fun y hy => by
  obtain ⟨i, hi, e⟩ := List.mem_iff_getElem.mp hy
  obtain ⟨a, ha, h⟩ := pair_back p (i := i) (b := y) (by rw [← e]; exact List.getElem?_eq_getElem hi)
  exact ⟨a, List.mem_of_getElem? ha, h⟩
section
variable {H H' : Hp} {m m' n n' : Nat} {Z Z' : Addr → Prop} {v : V}
theorem gv_ex (e : Ex H H') (h : Gv m n Z H v) : Gv m n Z H' v := h.imp fun _ r => rp_ex e r
theorem gv_up (hn : n ≤ n') (hm : m ≤ m') (hz : ∀ b, Z b → Z' b) (h : Gv m n Z H v) : Gv m' n' Z' H v := h.imp fun _ r => rp_up hn hm (rp_S hz r)
theorem gv_ne {a : Addr} (ha : H a = none) (h : Gv m n Z H v) : Gv m n (fun b => Z b ∧ b ≠ a) H v := h.imp fun _ r => rp_S (fun b hb => ⟨hb.1, fun z => hb.2 (by rw [z]; exact ha)⟩) (rp_dom r)
theorem gv_upd {a : Addr} {o u : HO} (ha : H a = some o) (no : ∀ xs, o ≠ .tup xs) (hS : ∀ b, Z b → b ≠ a) (h : Gv m n Z H v) : Gv m n Z (upd H a u) v := h.imp fun _ r => rp_upd ha no hS r
theorem gv_non : Gv m (n + 1) Z H .non := ⟨.non, rfl⟩
theorem gv_bl {b : Bool} : Gv m (n + 1) Z H (.bl b) := ⟨.bl b, rfl⟩
theorem gv_int {i : Int} : Gv m (n + 1) Z H (.int i) := ⟨.int i, rfl⟩
theorem gv_str {s : Str} (h : s.length ≤ sB m) : Gv m (n + 1) Z H (.str s) := ⟨.str s, rfl, h⟩
theorem gv_lst {a : Addr} {xs : List V} (ha : H a = some (.lst xs)) (za : Z a) (hl : xs.length ≤ m) (h : ∀ x ∈ xs, Gv m n Z H x) : Gv m (n + 1) Z H (.ref a) := by
  obtain ⟨l, hp⟩ := pair_choose h
  exact ⟨.lst l, a, xs, rfl, za, ha, by rw [pair_len hp]; exact hl, hp⟩
theorem gv_tup {a : Addr} {xs : List V} (ha : H a = some (.tup xs)) (hl : xs.length ≤ m) (h : ∀ x ∈ xs, Gv m n Z H x) : Gv m (n + 1) Z H (.ref a) := by
  obtain ⟨l, hp⟩ := pair_choose h
  exact ⟨.tup l, a, xs, rfl, ha, by rw [pair_len hp]; exact hl, hp⟩
/-- the entries of a dict of such values -/
def Ge (m n : Nat) (Z : Addr → Prop) (H : Hp) (es : List (Key × V)) : Prop := (es.map fun e : Key × V => e.1).Nodup ∧ ∀ e ∈ es, kLen e.1 ≤ sB m ∧ Gv m n Z H e.2
theorem gv_dic {a : Addr} {es : List (Key × V)} (ha : H a = some (.dK es)) (za : Z a) (hl : es.length ≤ m) (h : Ge m n (fun b => Z b ∧ b ≠ a) H es) : Gv m (n + 1) Z H (.ref a) := by
  obtain ⟨l, hp⟩ := pair_choose (F := fun (q : KG) (e : Key × V) => e.1 = q.1 ∧ Rp H m n (fun b => Z b ∧ b ≠ a) q.2 e.2) (xs := es) fun e he => by
    obtain ⟨g, hg⟩ := (h.2 e he).2
    exact ⟨(e.1, g), rfl, hg⟩
  have ek := pair_keysG hp
  refine ⟨.dic l, a, es, rfl, za, ha, by rw [pair_len hp]; exact hl, ⟨by rw [← ek]; exact h.1, fun q hq => ?_⟩, hp⟩
  obtain ⟨e, he, h1, _⟩ : ∃ e ∈ es, e.1 = q.1 ∧ Rp H m n (fun b => Z b ∧ b ≠ a) q.2 e.2 := by
    obtain ⟨t, ht, e⟩ := List.mem_iff_getElem.mp hq
    obtain ⟨b, hb, h⟩ := pair_at hp (i := t) (a := q) (by rw [← e]; exact List.getElem?_eq_getElem ht)
    exact ⟨b, List.mem_of_getElem? hb, h⟩
  rw [← h1]; exact (h.2 e he).1
theorem ge_put {es : List (Key × V)} {k : Key} (h : Ge m n Z H es) (hk : kLen k ≤ sB m) (hv : Gv m n Z H v) : Ge m n Z H (putK es k v) ∧ (putK es k v).length ≤ es.length + 1 := by
  unfold putK
  by_cases c : (es.any fun kv => decide (kv.1 = k)) = true
  · rw [if_pos c]
    have ek : ((es.map fun kv => if kv.1 = k then (kv.1, v) else kv).map fun e : Key × V => e.1) = es.map fun e : Key × V => e.1 := by
      rw [List.map_map]
      refine List.map_congr_left fun e _ => ?_
      show (if e.1 = k then (e.1, v) else e).1 = e.1
      split <;> rfl
    refine ⟨⟨by rw [ek]; exact h.1, fun e he => ?_⟩, by rw [List.length_map]; omega⟩
    obtain ⟨e0, h0, rfl⟩ := List.mem_map.mp he
    by_cases ce : e0.1 = k
    · rw [if_pos ce]; exact ⟨by rw [ce]; exact hk, hv⟩
    · rw [if_neg ce]; exact h.2 e0 h0
  · rw [if_neg c]
    refine ⟨⟨?_, fun e he => ?_⟩, by rw [List.length_append]; exact Nat.le_refl _⟩
    · rw [List.map_append]
      refine List.nodup_append.mpr ⟨h.1, by simp, fun a ha b hb => ?_⟩
      obtain ⟨e, he, rfl⟩ := List.mem_map.mp ha
      have hb : b = k := by simpa using hb
      rw [hb]
      intro z
      exact c (List.any_eq_true.mpr ⟨e, he, decide_eq_true z⟩)
    · rcases List.mem_append.mp he with he | he
      · exact h.2 e he
      · rw [List.mem_singleton.mp he]; exact ⟨hk, hv⟩
theorem ge_imp {es : List (Key × V)} (h : Ge m n Z H es) (f : ∀ x, Gv m n Z H x → Gv m' n' Z' H' x) (hm : m ≤ m') : Ge m' n' Z' H' es := ⟨h.1, fun e he => ⟨Nat.le_trans (h.2 e he).1 (sB_mono hm), f _ (h.2 e he).2⟩⟩
end
/-! ### expressions -/
def EvG (te : TE) (σ : L2.St) (H : Hp) (F : Hp → V → Prop) : Prop := ∀ H1, Ex H H1 → ∀ Q : VK, (∀ v H2, Ex H1 H2 → F H2 v → Q v H2) → te σ H1 Q
def EvAG (ta : TA) (σ : L2.St) (H : Hp) (F : Hp → V → Prop) (k : Nat) : Prop := ∀ H1, Ex H H1 → ∀ Q : List V → Hp → Prop, (∀ vs H2, Ex H1 H2 → vs.length = k → (∀ v ∈ vs, F H2 v) → Q vs H2) → ta σ H1 Q
section
variable {σ : L2.St} {H : Hp} {m n k : Nat} {Z : Addr → Prop} {te : TE} {ta : TA} {v : V}
theorem ep_ev (h : Ev te σ H v) (g : Gv m n Z H v) : EvG te σ H (Gv m n Z) := fun H1 e Q q => h H1 e _ fun H2 e2 => q v H2 e2 (gv_ex (e.trans e2) g)
theorem ep_str {x : Str} (h : x.length ≤ sB m) : EvG (tC (.str x)) σ H (Gv m (n + 1) Z) := ep_ev Evl.ev_c (gv_str h)
theorem ep_up {n' : Nat} (hn : n ≤ n') (h : EvG te σ H (Gv m n Z)) : EvG te σ H (Gv m n' Z) := fun H1 e Q q => h H1 e _ fun v H2 e2 g => q v H2 e2 (gv_up hn (Nat.le_refl _) (fun _ z => z) g)
theorem ap_nil : EvAG tNil σ H (Gv m n Z) 0 := fun H1 e Q q => q [] H1 (Ex.refl _) rfl (fun v hv => nomatch hv)
theorem ap_cons (h : EvG te σ H (Gv m n Z)) (h2 : EvAG ta σ H (Gv m n Z) k) : EvAG (tCons te ta) σ H (Gv m n Z) (k + 1) := fun H1 e Q q =>
  h H1 e _ fun v H2 e2 g => h2 H2 (e.trans e2) _ fun vs H3 e3 hl hv => q (v :: vs) H3 (e2.trans e3) (by rw [List.length_cons, hl]) fun x hx => by
    rcases List.mem_cons.mp hx with rfl | hx
    · exact gv_ex e3 g
    · exact hv x hx
theorem ep_lst (h : EvAG ta σ H (Gv m n Z) k) (hk : k ≤ m) (hk2 : k ≤ 100000) (hz : ∀ a, H a = none → Z a) : EvG (tLst ta) σ H (Gv m (n + 1) Z) := fun H1 e Q q =>
  h H1 e _ fun vs H2 e2 hl hv => ⟨Evl.sz_of (by omega), fun p hp => q (.ref p) _ (e2.trans (Ex.new hp)) (gv_lst upd_same (hz p (Evl.fresh_back (e.trans e2) hp)) (by omega) fun x hx => gv_ex (Ex.new hp) (hv x hx))⟩
theorem ep_tup (h : EvAG ta σ H (Gv m n Z) k) (hk : k ≤ m) (hk2 : k ≤ 100000) : EvG (tTup ta) σ H (Gv m (n + 1) Z) := fun H1 e Q q =>
  h H1 e _ fun vs H2 e2 hl hv => ⟨Evl.sz_of (by omega), fun p hp => q (.ref p) _ (e2.trans (Ex.new hp)) (gv_tup upd_same (by omega) fun x hx => gv_ex (Ex.new hp) (hv x hx))⟩
theorem ep_dnew (hz : ∀ a, H a = none → Z a) : EvG tDNewK σ H (Gv m (n + 1) Z) := fun H1 e Q q =>
  fun p hp => q (.ref p) _ (Ex.new hp) (gv_dic upd_same (hz p (Evl.fresh_back e hp)) (Nat.zero_le _) ⟨List.nodup_nil, fun e he => nomatch he⟩)
theorem ep_d1 {x : Str} (hx : x.length ≤ sB m) (h1 : 1 ≤ m) (hz : ∀ a, H a = none → Z a) (h : ∀ H1 p, Ex H H1 → H1 p = none → EvG te σ (upd H1 p (.dK [])) (Gv m n (fun b => Z b ∧ b ≠ p))) : EvG (tDisp [(tC (.str x), te)]) σ H (Gv m (n + 1) Z) := fun H1 e Q q => by
  intro p hp
  refine h H1 p e hp _ (Ex.refl _) _ fun v H2 e2 g => ?_
  have hp2 := e2 _ _ upd_same
  refine ⟨hp2, [(Sum.inr x, v)], rfl, (by show 1 ≤ 15; decide), ?_⟩
  refine q (.ref p) _ (Ex.mut ((Ex.new hp).trans e2) hp) (gv_dic upd_same (hz p (Evl.fresh_back e hp)) h1 ⟨by show [(Sum.inr x : Key)].Nodup; simp, fun e he => ?_⟩)
  have he : e = (Sum.inr x, v) := List.mem_singleton.mp he
  rw [he]
  exact ⟨hx, gv_upd hp2 (fun _ z => nomatch z) (fun b z => z.2) g⟩
theorem ep_d2 {x y : Str} (ne : x ≠ y) (hx : x.length ≤ sB m) (hy : y.length ≤ sB m) (h1 : 2 ≤ m) (hz : ∀ a, H a = none → Z a) (he : Ev te σ H v) (g : Gv m (n + 1) Z H v) : EvG (tDisp [(tC (.str x), te), (tC (.str y), tDNewK)]) σ H (Gv m (n + 2) Z) := fun H1 e Q q => by
  intro p hp
  refine he _ (e.trans (Ex.new hp)) _ fun H2 e2 => ?_
  intro p2 hp2
  have h2 := e2 _ _ upd_same
  have h3 := Ex.new (o := .dK []) hp2 _ _ h2
  have npp : p2 ≠ p := fun z => by rw [z, h2] at hp2; cases hp2
  have e3 : Ex H1 (upd H2 p2 (.dK [])) := (Ex.new hp).trans (e2.trans (Ex.new hp2))
  refine ⟨h3, [(Sum.inr x, v), (Sum.inr y, .ref p2)], rfl, (by show 2 ≤ 15; decide), ?_⟩
  have em : mergeK [] [((Sum.inr x : Key), v), (Sum.inr y, .ref p2)] = [((Sum.inr x : Key), v), (Sum.inr y, .ref p2)] := by
    show putK (putK [] (Sum.inr x : Key) v) (Sum.inr y) (.ref p2) = _
    rw [putK_new _ (by rfl : valV ([] : List (Key × V)) (Sum.inr x) = none), List.nil_append, putK_new]
    · rfl
    · rw [vV_cons, if_neg fun z => ne (Sum.inr.inj z)]; rfl
  rw [em]
  refine q (.ref p) _ (Ex.mut e3 hp) (gv_dic upd_same (hz p (Evl.fresh_back e hp)) h1 ⟨by simp [ne], fun en hen => ?_⟩)
  rcases List.mem_cons.mp hen with rfl | hen
  · exact ⟨hx, gv_upd h3 (fun _ z => nomatch z) (fun b z => z.2) (gv_ex e3 (gv_ne hp (gv_ex e g)))⟩
  · have hen : en = (Sum.inr y, .ref p2) := List.mem_singleton.mp hen
    rw [hen]
    refine ⟨hy, gv_upd h3 (fun _ z => nomatch z) (fun b z => z.2) (gv_dic upd_same ⟨hz p2 (Evl.fresh_back (e.trans ((Ex.new hp).trans e2)) hp2), npp⟩ (Nat.zero_le _) ⟨List.nodup_nil, fun e he => nomatch he⟩)⟩
theorem at_mem {xs : List V} {i : Int} (h0 : 0 ≤ i) (h1 : i < (xs.length : Int)) : ∃ v, atI xs i = some v ∧ v ∈ xs := by
  obtain ⟨j, rfl⟩ := Int.eq_ofNat_of_zero_le h0
  have hj : j < xs.length := by omega
  exact ⟨xs[j], atI_nat (List.getElem?_eq_getElem hj), List.getElem_mem hj⟩
end
end Ssb

namespace Pk
open PySem PySem.Spec PyProof.Rows L2 Ssb
/-- the i-th statement of the text -/
def topS (i : Nat) : Stmt := PySem.Challenge.pw_statestay_k05_whole_wrong_data_found.main.body.getD i (.Pass ⟨0, 0, 0, 0⟩)
abbrev s_InvalidData_init : Stmt := inClass (topS 4) 0
theorem sc_InvalidData_init : FnScope ["self", "path"] ["self", "path"] (defScope s_InvalidData_init) := ⟨rfl, rfl, rfl, by decide +kernel, rfl, by decide +kernel, by decide +kernel⟩
abbrev s_is_word : Stmt := topS 7
theorem sc_is_word : FnScope ["value", "letter"] ["value"] (defScope s_is_word) := ⟨rfl, rfl, rfl, by decide +kernel, rfl, by decide +kernel, by decide +kernel⟩
abbrev s_are_words : Stmt := topS 8
theorem sc_are_words : FnScope ["values", "least", "most", "value"] ["values", "least", "most"] (defScope s_are_words) := ⟨rfl, rfl, rfl, by decide +kernel, rfl, by decide +kernel, by decide +kernel⟩
abbrev s_is_integer : Stmt := topS 9
theorem sc_is_integer : FnScope ["value", "least", "most"] ["value", "least", "most"] (defScope s_is_integer) := ⟨rfl, rfl, rfl, by decide +kernel, rfl, by decide +kernel, by decide +kernel⟩
abbrev s_has_names : Stmt := topS 10
theorem sc_has_names : FnScope ["value", "names", "name"] ["value", "names"] (defScope s_has_names) := ⟨rfl, rfl, rfl, by decide +kernel, rfl, by decide +kernel, by decide +kernel⟩
abbrev s_is_named : Stmt := topS 11
theorem sc_is_named : FnScope ["value", "most", "key"] ["value", "most"] (defScope s_is_named) := ⟨rfl, rfl, rfl, by decide +kernel, rfl, by decide +kernel, by decide +kernel⟩
abbrev s_wrong_part : Stmt := topS 13
theorem sc_wrong_part : FnScope ["flags", "lists", "rows", "name", "parent", "fields"] ["flags", "lists"] (defScope s_wrong_part) := ⟨rfl, rfl, rfl, by decide +kernel, rfl, by decide +kernel, by decide +kernel⟩
abbrev s_are_lists : Stmt := topS 14
theorem sc_are_lists : FnScope ["lists", "outer", "inner"] ["lists"] (defScope s_are_lists) := ⟨rfl, rfl, rfl, by decide +kernel, rfl, by decide +kernel, by decide +kernel⟩
abbrev s_are_list_shapes : Stmt := topS 15
theorem sc_are_list_shapes : FnScope ["lists", "most", "one"] ["lists", "most"] (defScope s_are_list_shapes) := ⟨rfl, rfl, rfl, by decide +kernel, rfl, by decide +kernel, by decide +kernel⟩
abbrev s_list_rows : Stmt := topS 16
theorem sc_list_rows : FnScope ["lists", "rows", "name", "outer", "deep", "inner"] ["lists"] (defScope s_list_rows) := ⟨rfl, rfl, rfl, by decide +kernel, rfl, by decide +kernel, by decide +kernel⟩
abbrev s_are_fields : Stmt := topS 17
theorem sc_are_fields : FnScope ["fields", "words"] ["fields"] (defScope s_are_fields) := ⟨rfl, rfl, rfl, by decide +kernel, rfl, by decide +kernel, by decide +kernel⟩
abbrev s_Shape_init : Stmt := inClass (topS 21) 0
theorem sc_Shape_init : FnScope ["self", "flags", "lists", "part", "name", "parent", "fields"] ["self", "flags", "lists"] (defScope s_Shape_init) := ⟨rfl, rfl, rfl, by decide +kernel, rfl, by decide +kernel, by decide +kernel⟩
abbrev s_Shape_outer : Stmt := inClass (topS 21) 2
theorem sc_Shape_outer : FnScope ["self"] ["self"] (defScope s_Shape_outer) := ⟨rfl, rfl, rfl, by decide +kernel, rfl, by decide +kernel, by decide +kernel⟩
abbrev s_Shape_inner : Stmt := inClass (topS 21) 3
theorem sc_Shape_inner : FnScope ["self", "name"] ["self", "name"] (defScope s_Shape_inner) := ⟨rfl, rfl, rfl, by decide +kernel, rfl, by decide +kernel, by decide +kernel⟩
abbrev s_Shape_fields : Stmt := inClass (topS 21) 4
theorem sc_Shape_fields : FnScope ["self", "name"] ["self", "name"] (defScope s_Shape_fields) := ⟨rfl, rfl, rfl, by decide +kernel, rfl, by decide +kernel, by decide +kernel⟩
abbrev s_Shape_lists_in : Stmt := inClass (topS 21) 6
theorem sc_Shape_lists_in : FnScope ["self", "parent", "name"] ["self", "parent"] (defScope s_Shape_lists_in) := ⟨rfl, rfl, rfl, by decide +kernel, rfl, by decide +kernel, by decide +kernel⟩
abbrev s_Shape_need_list : Stmt := inClass (topS 21) 7
theorem sc_Shape_need_list : FnScope ["self", "name"] ["self", "name"] (defScope s_Shape_need_list) := ⟨rfl, rfl, rfl, by decide +kernel, rfl, by decide +kernel, by decide +kernel⟩
abbrev s_check : Stmt := topS 22
theorem sc_check : FnScope ["shape", "data", "flag"] ["shape", "data"] (defScope s_check) := ⟨rfl, rfl, rfl, by decide +kernel, rfl, by decide +kernel, by decide +kernel⟩
abbrev s_check_words : Stmt := topS 23
theorem sc_check_words : FnScope ["chosen", "choices", "place", "name"] ["chosen", "choices", "place"] (defScope s_check_words) := ⟨rfl, rfl, rfl, by decide +kernel, rfl, by decide +kernel, by decide +kernel⟩
abbrev s_is_choice : Stmt := topS 24
theorem sc_is_choice : FnScope ["value", "several"] ["value", "several"] (defScope s_is_choice) := ⟨rfl, rfl, rfl, by decide +kernel, rfl, by decide +kernel, by decide +kernel⟩
abbrev s_check_lists : Stmt := topS 25
theorem sc_check_lists : FnScope ["shape", "lists", "names", "place", "name"] ["shape", "lists", "names", "place"] (defScope s_check_lists) := ⟨rfl, rfl, rfl, by decide +kernel, rfl, by decide +kernel, by decide +kernel⟩
abbrev s_check_rows : Stmt := topS 26
theorem sc_check_rows : FnScope ["shape", "name", "rows", "place", "earlier", "index", "row"] ["shape", "name", "rows", "place"] (defScope s_check_rows) := ⟨rfl, rfl, rfl, by decide +kernel, rfl, by decide +kernel, by decide +kernel⟩
abbrev s_check_row : Stmt := topS 27
theorem sc_check_row : FnScope ["shape", "name", "row", "earlier", "here"] ["shape", "name", "row", "earlier", "here"] (defScope s_check_row) := ⟨rfl, rfl, rfl, by decide +kernel, rfl, by decide +kernel, by decide +kernel⟩
abbrev s_rows_in : Stmt := topS 28
theorem sc_rows_in : FnScope ["data", "rows", "row"] ["data"] (defScope s_rows_in) := ⟨rfl, rfl, rfl, by decide +kernel, rfl, by decide +kernel, by decide +kernel⟩
abbrev s__law_stream : Stmt := topS 30
theorem sc__law_stream : FnScope ["_law_script", "_law_cells", "_law_cell"] ["_law_script"] (defScope s__law_stream) := ⟨rfl, rfl, rfl, by decide +kernel, rfl, by decide +kernel, by decide +kernel⟩
abbrev s__law_draw : Stmt := topS 31
theorem sc__law_draw : FnScope ["_law_stream_here", "_law_many", "_law_cells", "_law_step", "_law_at", "_law_cell", "_law_number"] ["_law_stream_here", "_law_many"] (defScope s__law_draw) := ⟨rfl, rfl, rfl, by decide +kernel, rfl, by decide +kernel, by decide +kernel⟩
abbrev s__law_same : Stmt := topS 32
theorem sc__law_same : FnScope ["_law_actual", "_law_expected", "_law_key", "_law_k"] ["_law_actual", "_law_expected"] (defScope s__law_same) := ⟨rfl, rfl, rfl, by decide +kernel, rfl, by decide +kernel, by decide +kernel⟩
abbrev s__law_copy : Stmt := topS 33
theorem sc__law_copy : FnScope ["_law_value", "_law_result", "_law_key", "_law_part"] ["_law_value"] (defScope s__law_copy) := ⟨rfl, rfl, rfl, by decide +kernel, rfl, by decide +kernel, by decide +kernel⟩
abbrev s__law_turned : Stmt := topS 34
theorem sc__law_turned : FnScope ["_law_value", "_law_result", "_law_key", "_law_part"] ["_law_value"] (defScope s__law_turned) := ⟨rfl, rfl, rfl, by decide +kernel, rfl, by decide +kernel, by decide +kernel⟩
abbrev s__law_word : Stmt := topS 35
theorem sc__law_word : FnScope ["_law_stream_here", "_law_letters", "_law_size", "_law_number", "_law_word_here", "_law_k"] ["_law_stream_here"] (defScope s__law_word) := ⟨rfl, rfl, rfl, by decide +kernel, rfl, by decide +kernel, by decide +kernel⟩
abbrev s__law_names : Stmt := topS 36
theorem sc__law_names : FnScope ["_law_stream_here", "_law_many", "_law_taken", "_law_names_here", "_law_k", "_law_word_here", "_law_spares", "_law_spare"] ["_law_stream_here", "_law_many", "_law_taken"] (defScope s__law_names) := ⟨rfl, rfl, rfl, by decide +kernel, rfl, by decide +kernel, by decide +kernel⟩
abbrev s__law_fields : Stmt := topS 37
theorem sc__law_fields : FnScope ["_law_stream_here", "_law_most", "_law_fields_here", "_law_name"] ["_law_stream_here", "_law_most"] (defScope s__law_fields) := ⟨rfl, rfl, rfl, by decide +kernel, rfl, by decide +kernel, by decide +kernel⟩
abbrev s__law_lists : Stmt := topS 38
theorem sc__law_lists : FnScope ["_law_stream_here", "_law_most", "_law_names_here", "_law_lists_here", "_law_k", "_law_inner"] ["_law_stream_here", "_law_most"] (defScope s__law_lists) := ⟨rfl, rfl, rfl, by decide +kernel, rfl, by decide +kernel, by decide +kernel⟩
abbrev s__law_rows : Stmt := topS 40
theorem sc__law_rows : FnScope ["_law_stream_here", "_law_described", "_law_most", "_law_rows_here", "_law_k", "_law_taken", "_law_number", "_law_fields_here", "_law_name", "_law_words", "_law_lists_here", "_law_row", "_law_spare"] ["_law_stream_here", "_law_described", "_law_most"] (defScope s__law_rows) := ⟨rfl, rfl, rfl, by decide +kernel, rfl, by decide +kernel, by decide +kernel⟩
abbrev s__law_data : Stmt := topS 41
theorem sc__law_data : FnScope ["_law_stream_here", "_law_flags", "_law_lists_here", "_law_most", "_law_values", "_law_flag", "_law_inside", "_law_name"] ["_law_stream_here", "_law_flags", "_law_lists_here", "_law_most"] (defScope s__law_data) := ⟨rfl, rfl, rfl, by decide +kernel, rfl, by decide +kernel, by decide +kernel⟩
abbrev s__law_odd : Stmt := topS 42
theorem sc__law_odd : FnScope ["_law_stream_here", "_law_odd_here", "_law_at", "_law_value", "_law_k"] ["_law_stream_here"] (defScope s__law_odd) := ⟨rfl, rfl, rfl, by decide +kernel, rfl, by decide +kernel, by decide +kernel⟩
abbrev s__law_resized : Stmt := topS 43
theorem sc__law_resized : FnScope ["_law_stream_here", "_law_parts", "_law_at", "_law_way"] ["_law_stream_here", "_law_parts"] (defScope s__law_resized) := ⟨rfl, rfl, rfl, by decide +kernel, rfl, by decide +kernel, by decide +kernel⟩
abbrev s__law_changed : Stmt := topS 44
theorem sc__law_changed : FnScope ["_law_stream_here", "_law_value", "_law_way", "_law_result", "_law_left", "_law_k", "_law_key", "_law_parts"] ["_law_stream_here", "_law_value"] (defScope s__law_changed) := ⟨rfl, rfl, rfl, by decide +kernel, rfl, by decide +kernel, by decide +kernel⟩
abbrev s__law_spoil : Stmt := topS 45
theorem sc__law_spoil : FnScope ["_law_stream_here", "_law_value", "_law_at", "_law_result", "_law_k", "_law_key", "_law_parts"] ["_law_stream_here", "_law_value"] (defScope s__law_spoil) := ⟨rfl, rfl, rfl, by decide +kernel, rfl, by decide +kernel, by decide +kernel⟩
abbrev s__law_has : Stmt := topS 46
theorem sc__law_has : FnScope ["_law_value", "_law_names_here", "_law_name"] ["_law_value", "_law_names_here"] (defScope s__law_has) := ⟨rfl, rfl, rfl, by decide +kernel, rfl, by decide +kernel, by decide +kernel⟩
abbrev s__law_row_wrong : Stmt := topS 47
theorem sc__law_row_wrong : FnScope ["_law_described", "_law_row", "_law_earlier", "_law_number", "_law_fields_here", "_law_field"] ["_law_described", "_law_row", "_law_earlier"] (defScope s__law_row_wrong) := ⟨rfl, rfl, rfl, by decide +kernel, rfl, by decide +kernel, by decide +kernel⟩
abbrev s__law_rows_wrong : Stmt := topS 48
theorem sc__law_rows_wrong : FnScope ["_law_described", "_law_rows_here", "_law_earlier", "_law_k", "_law_wrong", "_law_name"] ["_law_described", "_law_rows_here"] (defScope s__law_rows_wrong) := ⟨rfl, rfl, rfl, by decide +kernel, rfl, by decide +kernel, by decide +kernel⟩
abbrev s__law_data_wrong : Stmt := topS 49
theorem sc__law_data_wrong : FnScope ["_law_flags", "_law_lists_here", "_law_data_here", "_law_flag", "_law_name", "_law_wrong"] ["_law_flags", "_law_lists_here", "_law_data_here"] (defScope s__law_data_wrong) := ⟨rfl, rfl, rfl, by decide +kernel, rfl, by decide +kernel, by decide +kernel⟩
abbrev s__law_asked : Stmt := topS 50
theorem sc__law_asked : FnScope ["_law_shape", "_law_value", "_law_due", "_law_found", "_law_told", "error"] ["_law_shape", "_law_value", "_law_due"] (defScope s__law_asked) := ⟨rfl, rfl, rfl, by decide +kernel, rfl, by decide +kernel, by decide +kernel⟩
abbrev s_law : Stmt := topS 51
theorem sc_law : FnScope ["_law_script", "_law_stream_here", "_law_times", "_law_turn", "_law_flags", "_law_lists_here", "_law_value", "_law_k", "_law_shape", "_law_due", "_law_passed"] ["_law_script"] (defScope s_law) := ⟨rfl, rfl, rfl, by decide +kernel, rfl, by decide +kernel, by decide +kernel⟩
/-- what the module says of built-ins, constants and classes -/
structure Txt (K : PySem.W.Frag) (mg : Str → Option Value) (C_Shape : Addr) (C_InvalidData : Addr) (C_InvalidShape : Addr) (C_StayError : Addr) : Prop where
  all : mg "all" = none
  enumerate : mg "enumerate" = none
  int : mg "int" = none
  str : mg "str" = none
  bool : mg "bool" = none
  isinstance : mg "isinstance" = none
  len : mg "len" = none
  list : mg "list" = none
  range : mg "range" = none
  reversed : mg "reversed" = none
  sorted : mg "sorted" = none
  sum : mg "sum" = none
  tuple : mg "tuple" = none
  set : mg "set" = none
  dict : mg "dict" = none
  g_MOST_ROWS : ∃ t, mg "MOST_ROWS" = some (.int 300 t)
  g_GREATEST_ID : ∃ t, mg "GREATEST_ID" = some (.int 1000000 t)
  cl_Shape : Cls K C_Shape
  mk_Shape : PySem.W.makesIn K C_Shape = true
  kp_Shape : PySem.W.keepIn K (.ref C_Shape) = true
  at_Shape : mg "Shape" = some (.ref C_Shape)
  no_Shape_flags : NoAttr K C_Shape "flags"
  no_Shape_table : NoAttr K C_Shape "table"
  ox_InvalidData : OexE K C_InvalidData
  at_InvalidData : mg "InvalidData" = some (.ref C_InvalidData)
  xk_InvalidData : ExK K C_InvalidData
  own_InvalidData : PySem.W.exmOne K (.ref C_InvalidData) (.ref C_InvalidData) = some true
  no_InvalidData_path : PySem.W.findIn K (.ref C_InvalidData) "path" = some none
  is_InvalidData_InvalidShape : PySem.W.kitOne K (.ref C_InvalidData) (.ref C_InvalidShape) = some false
  is_InvalidData_StayError : PySem.W.kitOne K (.ref C_InvalidData) (.ref C_StayError) = some true
  ex_InvalidData_InvalidShape : PySem.W.exmOne K (.ref C_InvalidData) (.ref C_InvalidShape) = some false
  ex_InvalidData_StayError : PySem.W.exmOne K (.ref C_InvalidData) (.ref C_StayError) = some true
  se_InvalidData : PySem.W.kitOne K (.ref C_InvalidData) (.ref C_InvalidData) = some true
  at_InvalidShape : mg "InvalidShape" = some (.ref C_InvalidShape)
  kp_InvalidShape : PySem.W.keepIn K (.ref C_InvalidShape) = true
  at_StayError : mg "StayError" = some (.ref C_StayError)
  kp_StayError : PySem.W.keepIn K (.ref C_StayError) = true
/-- a def as it stands -/
def Here (K : PySem.W.Frag) (mg : Str → Option Value) (nm : Str) (st : Stmt) : Prop := ∃ f fd, mg nm = some (.ref f) ∧ Fun K nm nm st f fd ∧ PySem.W.keepIn K (.ref f) = true
def HereM (K : PySem.W.Frag) (C : Addr) (nm qual : Str) (st : Stmt) : Prop := ∃ f fd, Fun K nm qual st f fd ∧ PySem.W.findIn K (.ref C) nm = some (some (.ref f)) ∧ PySem.W.isFn K (.ref f) = true ∧ PySem.W.keepIn K (.ref f) = true
structure Prg (K : PySem.W.Frag) (mg : Str → Option Value) (C_Shape : Addr) (C_InvalidData : Addr) (C_InvalidShape : Addr) (C_StayError : Addr) : Prop where
  InvalidData_init : HereM K C_InvalidData "__init__" "InvalidData.__init__" s_InvalidData_init
  is_word : Here K mg "is_word" s_is_word
  are_words : Here K mg "are_words" s_are_words
  is_integer : Here K mg "is_integer" s_is_integer
  has_names : Here K mg "has_names" s_has_names
  is_named : Here K mg "is_named" s_is_named
  wrong_part : Here K mg "wrong_part" s_wrong_part
  are_lists : Here K mg "are_lists" s_are_lists
  are_list_shapes : Here K mg "are_list_shapes" s_are_list_shapes
  list_rows : Here K mg "list_rows" s_list_rows
  are_fields : Here K mg "are_fields" s_are_fields
  Shape_init : HereM K C_Shape "__init__" "Shape.__init__" s_Shape_init
  Shape_outer : HereM K C_Shape "outer" "Shape.outer" s_Shape_outer
  Shape_inner : HereM K C_Shape "inner" "Shape.inner" s_Shape_inner
  Shape_fields : HereM K C_Shape "fields" "Shape.fields" s_Shape_fields
  Shape_lists_in : HereM K C_Shape "lists_in" "Shape.lists_in" s_Shape_lists_in
  Shape_need_list : HereM K C_Shape "need_list" "Shape.need_list" s_Shape_need_list
  check : Here K mg "check" s_check
  check_words : Here K mg "check_words" s_check_words
  is_choice : Here K mg "is_choice" s_is_choice
  check_lists : Here K mg "check_lists" s_check_lists
  check_rows : Here K mg "check_rows" s_check_rows
  check_row : Here K mg "check_row" s_check_row
  rows_in : Here K mg "rows_in" s_rows_in
  _law_stream : Here K mg "_law_stream" s__law_stream
  _law_draw : Here K mg "_law_draw" s__law_draw
  _law_same : Here K mg "_law_same" s__law_same
  _law_copy : Here K mg "_law_copy" s__law_copy
  _law_turned : Here K mg "_law_turned" s__law_turned
  _law_word : Here K mg "_law_word" s__law_word
  _law_names : Here K mg "_law_names" s__law_names
  _law_fields : Here K mg "_law_fields" s__law_fields
  _law_lists : Here K mg "_law_lists" s__law_lists
  _law_rows : Here K mg "_law_rows" s__law_rows
  _law_data : Here K mg "_law_data" s__law_data
  _law_odd : Here K mg "_law_odd" s__law_odd
  _law_resized : Here K mg "_law_resized" s__law_resized
  _law_changed : Here K mg "_law_changed" s__law_changed
  _law_spoil : Here K mg "_law_spoil" s__law_spoil
  _law_has : Here K mg "_law_has" s__law_has
  _law_row_wrong : Here K mg "_law_row_wrong" s__law_row_wrong
  _law_rows_wrong : Here K mg "_law_rows_wrong" s__law_rows_wrong
  _law_data_wrong : Here K mg "_law_data_wrong" s__law_data_wrong
  _law_asked : Here K mg "_law_asked" s__law_asked
  law : Here K mg "law" s_law
theorem here_mk {K : PySem.W.Frag} {h : Heap} {mg : Str → Option Value} (X : K.In h) (G : h.Ns mainGlobals mg) {nm : Str} {st : Stmt} {f : Addr} {oc : Value} {od an : Option Addr} {sl : Array (Option Value)} {kV dc pm cd ct : Value}
    (a : PySem.W.nsIn K mainGlobals nm = some (some (.ref f))) (l : K.lookup f = some ⟨oc, od, .func (PySem.W.fnOf nm nm (defArgs st) (defBody st) (defScope st) .none kV dc pm an cd ct), sl⟩) (c : PySem.W.codeIn K cd nm = true) (k : PySem.W.keepIn K (.ref f) = true) : Here K mg nm st :=
  ⟨f, _, PySem.W.mg_of X G a, fun_mk (st := st) l c k, k⟩
theorem hereM_mk {K : PySem.W.Frag} {C : Addr} {nm qual : Str} {st : Stmt} {f : Addr} {oc : Value} {od an : Option Addr} {sl : Array (Option Value)} {kV dc pm cd ct : Value}
    (a : PySem.W.findIn K (.ref C) nm = some (some (.ref f))) (i : PySem.W.isFn K (.ref f) = true) (l : K.lookup f = some ⟨oc, od, .func (PySem.W.fnOf nm qual (defArgs st) (defBody st) (defScope st) .none kV dc pm an cd ct), sl⟩) (c : PySem.W.codeIn K cd qual = true) (k : PySem.W.keepIn K (.ref f) = true) : HereM K C nm qual st :=
  ⟨f, _, fun_mk (st := st) l c k, a, i, k⟩
def spLaw (K : PySem.W.Frag) : Sp := fun vs H Q _ => ∃ (a : Addr) (ns : List Int), vs = [.ref a] ∧ SqL K H a (ns.map V.int) ∧ ns.length ≤ 63 ∧ ∀ H', Q (.bl true) H'

end Pk

namespace Pk
open PySem PySem.Spec PyProof.Rows L2 Ssb
open Evl (Ex Ev EvT EvL EvA EvU)
/-! ### promises of defs that hand back True -/
/-- where pre holds, z comes back, and only objects are made -/
def spV (z : V) (pre : List V → Hp → Prop) : Sp := fun vs H Q _ => pre vs H ∧ ∀ H', Ex H H' → Q z H'
theorem spV_ev {z : V} {pre : List V → Hp → Prop} {vs : List V} {ta : TA} {σ : L2.St} {H : Hp} (h : EvA ta σ H vs) (hp : ∀ H1, Ex H H1 → pre vs H1) : Ev (tCall (spV z pre) [] E0 ta) σ H z := ev_fn h fun H1 e Q q => ⟨hp H1 e, q⟩
/-- a word -/
def isW (s : Str) : Prop := 1 ≤ s.length ∧ s.length ≤ 8 ∧ ∀ c ∈ s.cps.toList, 97 ≤ c ∧ c ≤ 122
theorem lt_one {a b : Nat} (h : a ≤ b) : (!decide ([b] < [a])) = true := by
  have : ¬ ([b] < [a]) := by
    intro z
    rcases List.cons_lt_cons_iff.mp z with z | z
    · omega
    · exact absurd z.2 (by simp)
  simp [this]
section
variable {P : Program} {w : World} {K : PySem.W.Frag} {mg : Str → Option Value} {base : Heap} {C_Shape C_InvalidData C_InvalidShape C_StayError : Addr}
def preWord : List V → Hp → Prop := fun vs _ => ∃ s, vs = [.str s] ∧ isW s
theorem ok_is_word (T : Txt K mg C_Shape C_InvalidData C_InvalidShape C_StayError) (R : Prg K mg C_Shape C_InvalidData C_InvalidShape C_StayError) : ∃ f fd, Fn P w K mg base "is_word" 1 ["value"] (spV (.bl true) preWord) f fd := by
  obtain ⟨f, fd, at_, F, kp⟩ := R.is_word
  refine ⟨f, fd, F.ok sc_is_word (fun vs H Q E h => ?_) (fun cdv A outer s H vs Q E hr h => ?_), at_, kp, F.binds (fun _ _ _ _ _ _ us hl => match us, hl with | [_], _ => rfl)⟩
  · obtain ⟨⟨s, rfl, _⟩, _⟩ := h; rfl
  · obtain ⟨⟨x, rfl, h1, h8, hc⟩, k⟩ := h
    refine ⟨_, (pss_cons (ps_if (PW.pt (pw_or (pt_not (pt_val (pe_callB (r := rIsi K) call_isi (by rfl) T.isinstance (by decide +kernel) (pa_cons (pv 0) (pa_cons (pe_bltn (v := .ty "str") (by rfl) T.str boot_str rfl) pa_nil))))) (pw_or1 (pt_not (pt_chain op_le op_le pe_int (pe_callB (r := rLenA K) call_len (by rfl) T.len (by decide +kernel) (pa_cons (pv 0) pa_nil)) pe_int))))) pss_never pss_nil)
  (pss_one (ps_ret (pe_callB (r := rAll K) (cr_all rfl) (by rfl) T.all (by decide +kernel) (pa_cons (pe_lc (own := [("letter", 1)]) rfl sc_is_word.nd (pi_str (pv 0)) (blkOk_by (own := [("letter", 1)]) (N := ["value", "letter"]) (sc := defScope s_is_word) (by decide +kernel)) (fun _ _ _ _ _ => (pg_name (i := 1) sc_is_word.nd rfl (Or.inl rfl))) (fun _ _ _ _ _ => pts_nil) (fun _ _ _ _ _ => (pe_chain op_le_str op_le_str pe_str (pv 1) pe_str))) pa_nil))))), ?_⟩
    refine Evl.q_when (b := false) (Evl.et_or (a := false) (b := false) (Evl.et_not (a := true) (Evl.et_B (ev_isi (Evl.ev_var rfl) (fun H1 _ => .base (.str x)) (kit_ty (by decide +kernel))))) fun _ => Evl.et_not (a := true) (Evl.et_test ?_)) (fun h => nomatch h) fun _ H1 e1 => ?_
    · refine Evl.ev_is (ev_chain Evl.ev_c (ev_lenS (Evl.ev_var rfl) (by omega)) Evl.ev_c Evl.rv_I0 Evl.rv_I0) ?_
      rw [decide_eq_true (by omega : (1 : Int) ≤ (x.length : Int)), decide_eq_true (by omega : (x.length : Int) ≤ 8)]
      rfl
    · refine Evl.s_ret (ev_allT (n := x.length) (el_lcS (Evl.ev_var rfl) (by omega) (fun _ => rfl) fun i c hi H2 e2 => ?_)) fun H2 e2 => k H2 (e1.trans e2)
      obtain ⟨ha, hz⟩ := hc c (by rw [← Array.getElem?_toList] at hi; exact List.mem_of_getElem? hi)
      refine Evl.ev_is (ev_chain (b1 := true) (b2 := true) Evl.ev_c (Evl.ev_var rfl) Evl.ev_c ?_ ?_) rfl
      · exact fun H1 _ Q q => ⟨_, _, rfl, rfl, by rw [show (!decide ((⟨#[c]⟩ : Str).cps.toList < ("a" : Str).cps.toList)) = true from lt_one ha]; exact q H1 (Ex.refl _)⟩
      · exact fun H1 _ Q q => ⟨_, _, rfl, rfl, by rw [show (!decide (("z" : Str).cps.toList < (⟨#[c]⟩ : Str).cps.toList)) = true from lt_one hz]; exact q H1 (Ex.refl _)⟩

/-! ### are_words, of a list and of a tuple -/
def preWords (t : Bool) (K : PySem.W.Frag) : List V → Hp → Prop := fun vs H => ∃ (a : Addr) (xs : List Str) (lo hi : Int), vs = [.ref a, .int lo, .int hi] ∧ (if t = true then SqT K H a (xs.map V.str) else SqL K H a (xs.map V.str)) ∧ xs.length ≤ 1000 ∧ lo ≤ xs.length ∧ (xs.length : Int) ≤ hi ∧ (∀ x ∈ xs, isW x) ∧ xs.Nodup
theorem ok_are_wordsL (T : Txt K mg C_Shape C_InvalidData C_InvalidShape C_StayError) (R : Prg K mg C_Shape C_InvalidData C_InvalidShape C_StayError) : ∃ f fd, Fn P w K mg base "are_words" 2 ["values", "least", "most"] (spV (.bl true) (preWords false K)) f fd := by
  obtain ⟨_, _, G_is_word⟩ := ok_is_word (P := P) (w := w) (base := base) T R
  obtain ⟨f, fd, at_, F, kp⟩ := R.are_words
  refine ⟨f, fd, F.ok sc_are_words (fun vs H Q E h => ?_) (fun cdv A outer s H vs Q E hr h => ?_), at_, kp, F.binds (fun _ _ _ _ _ _ us hl => match us, hl with | [_, _, _], _ => rfl)⟩
  · obtain ⟨⟨a, xs, lo, hi, rfl, _⟩, _⟩ := h; rfl
  · obtain ⟨⟨a, xs, lo, hi, rfl, hs, few, hlo, hhi, hw, hn⟩, k⟩ := h
    have hs : SqL K H a (xs.map V.str) := hs
    refine ⟨_, (pss_cons (ps_if (PW.pt (pw_or (pt_not (pt_chain op_le op_le (pv 1) (pe_callB (r := rLenA K) call_len (by rfl) T.len (by decide +kernel) (pa_cons (pv 0) pa_nil)) (pv 2))) (pw_or1 (pt_not (pt_val (pe_callB (r := rAll K) (cr_all rfl) (by rfl) T.all (by decide +kernel) (pa_cons (pe_lc (own := [("value", 3)]) rfl sc_are_words.nd (show PI _ _ _ (iList K _) from pi_list (pv 0)) (blkOk_by (own := [("value", 3)]) (N := ["values", "least", "most", "value"]) (sc := defScope s_are_words) (by decide +kernel)) (fun _ _ _ _ _ => (pg_name (i := 3) sc_are_words.nd rfl (Or.inl rfl))) (fun _ _ _ _ _ => pts_nil) (fun _ _ _ _ _ => (pcl G_is_word hr (pa_cons (pv 3) pa_nil)))) pa_nil))))))) pss_never pss_nil)
  (pss_one (ps_ret (pe_cmpR op_eq (pe_callB call_lenTxs (by rfl) T.len (by decide +kernel) (pa_cons (pe_callTy (r := rSetS K P w) (cr_setS rfl) (by rfl) T.set (by decide +kernel) (pa_cons (pv 0) pa_nil)) pa_nil)) (pe_callB (r := rLenA K) call_len (by rfl) T.len (by decide +kernel) (pa_cons (pv 0) pa_nil)) (nomark _))))), ?_⟩
    refine Evl.q_when (b := false) (Evl.et_or (a := false) (b := false) (Evl.et_not (a := true) (Evl.et_test ?_)) fun _ => Evl.et_not (a := true) (Evl.et_B (ev_allT (el_lcA (Evl.ev_var rfl) hs (by rw [List.length_map]; omega) (fun _ => rfl) fun i x hx H2 e2 => ?_)))) (fun h => nomatch h) fun _ H1 e1 => Evl.s_ret (Evl.ev_is (Evl.ev_op (ev_lenSet (Evl.ev_var rfl) (.inl (Evl.ex_l e1 hs)) few) (ev_lenL (Evl.ev_var rfl) (.inl (Evl.ex_l e1 hs))) (Evl.rv_eq rfl)) ?_) fun H2 e2 => k H2 (e1.trans e2)
    · refine Evl.ev_is (ev_chain (Evl.ev_var rfl) (ev_lenL (Evl.ev_var rfl) (.inl hs)) (Evl.ev_var rfl) Evl.rv_I0 Evl.rv_I0) ?_
      rw [List.length_map, decide_eq_true hlo, decide_eq_true hhi]; rfl
    · obtain ⟨z, hz, rfl⟩ : ∃ z, xs[i]? = some z ∧ x = .str z := by
        rw [List.getElem?_map] at hx
        cases e : xs[i]? with
        | none => rw [e] at hx; cases hx
        | some z => rw [e] at hx; exact ⟨z, rfl, (Option.some.inj hx).symm⟩
      exact spV_ev (Evl.ea_cons (Evl.ev_var rfl) Evl.ea_nil) fun H3 _ => ⟨z, rfl, hw z (List.mem_of_getElem? hz)⟩
    · rw [met_nodup xs [] hn, List.length_map]; simp
theorem ok_are_wordsT (T : Txt K mg C_Shape C_InvalidData C_InvalidShape C_StayError) (R : Prg K mg C_Shape C_InvalidData C_InvalidShape C_StayError) : ∃ f fd, Fn P w K mg base "are_words" 2 ["values", "least", "most"] (spV (.bl true) (preWords true K)) f fd := by
  obtain ⟨_, _, G_is_word⟩ := ok_is_word (P := P) (w := w) (base := base) T R
  obtain ⟨f, fd, at_, F, kp⟩ := R.are_words
  refine ⟨f, fd, F.ok sc_are_words (fun vs H Q E h => ?_) (fun cdv A outer s H vs Q E hr h => ?_), at_, kp, F.binds (fun _ _ _ _ _ _ us hl => match us, hl with | [_, _, _], _ => rfl)⟩
  · obtain ⟨⟨a, xs, lo, hi, rfl, _⟩, _⟩ := h; rfl
  · obtain ⟨⟨a, xs, lo, hi, rfl, hs, few, hlo, hhi, hw, hn⟩, k⟩ := h
    have hs : SqT K H a (xs.map V.str) := hs
    refine ⟨_, (pss_cons (ps_if (PW.pt (pw_or (pt_not (pt_chain op_le op_le (pv 1) (pe_callB (r := rLenA K) call_len (by rfl) T.len (by decide +kernel) (pa_cons (pv 0) pa_nil)) (pv 2))) (pw_or1 (pt_not (pt_val (pe_callB (r := rAll K) (cr_all rfl) (by rfl) T.all (by decide +kernel) (pa_cons (pe_lc (own := [("value", 3)]) rfl sc_are_words.nd (show PI _ _ _ (iTup K _) from pi_tup (pv 0)) (blkOk_by (own := [("value", 3)]) (N := ["values", "least", "most", "value"]) (sc := defScope s_are_words) (by decide +kernel)) (fun _ _ _ _ _ => (pg_name (i := 3) sc_are_words.nd rfl (Or.inl rfl))) (fun _ _ _ _ _ => pts_nil) (fun _ _ _ _ _ => (pcl G_is_word hr (pa_cons (pv 3) pa_nil)))) pa_nil))))))) pss_never pss_nil)
  (pss_one (ps_ret (pe_cmpR op_eq (pe_callB call_lenTxs (by rfl) T.len (by decide +kernel) (pa_cons (pe_callTy (r := rSetS K P w) (cr_setS rfl) (by rfl) T.set (by decide +kernel) (pa_cons (pv 0) pa_nil)) pa_nil)) (pe_callB (r := rLenA K) call_len (by rfl) T.len (by decide +kernel) (pa_cons (pv 0) pa_nil)) (nomark _))))), ?_⟩
    refine Evl.q_when (b := false) (Evl.et_or (a := false) (b := false) (Evl.et_not (a := true) (Evl.et_test ?_)) fun _ => Evl.et_not (a := true) (Evl.et_B (ev_allT (el_lcT (Evl.ev_var rfl) hs (by rw [List.length_map]; omega) (fun _ => rfl) fun i x hx H2 e2 => ?_)))) (fun h => nomatch h) fun _ H1 e1 => Evl.s_ret (Evl.ev_is (Evl.ev_op (ev_lenSet (Evl.ev_var rfl) (.inr (Evl.ex_t e1 hs)) few) (ev_lenL (Evl.ev_var rfl) (.inr (Evl.ex_t e1 hs))) (Evl.rv_eq rfl)) ?_) fun H2 e2 => k H2 (e1.trans e2)
    · refine Evl.ev_is (ev_chain (Evl.ev_var rfl) (ev_lenL (Evl.ev_var rfl) (.inr hs)) (Evl.ev_var rfl) Evl.rv_I0 Evl.rv_I0) ?_
      rw [List.length_map, decide_eq_true hlo, decide_eq_true hhi]; rfl
    · obtain ⟨z, hz, rfl⟩ : ∃ z, xs[i]? = some z ∧ x = .str z := by
        rw [List.getElem?_map] at hx
        cases e : xs[i]? with
        | none => rw [e] at hx; cases hx
        | some z => rw [e] at hx; exact ⟨z, rfl, (Option.some.inj hx).symm⟩
      exact spV_ev (Evl.ea_cons (Evl.ev_var rfl) Evl.ea_nil) fun H3 _ => ⟨z, rfl, hw z (List.mem_of_getElem? hz)⟩
    · rw [met_nodup xs [] hn, List.length_map]; simp

/-! ### has_names, is_named -/
def preNames (K : PySem.W.Frag) : List V → Hp → Prop := fun vs H => ∃ (v : V) (a : Addr) (n : Nat) (S : Addr → Prop) (l : List (Str × D)) (ns : List Str), vs = [v, .ref a] ∧ Rep H n S (.dic l) v ∧ SqL K H a (ns.map V.str) ∧ ns.length ≤ 1000 ∧ l.length = ns.length ∧ ∀ x ∈ ns, (l.lookup x).isSome = true
theorem ok_has_names (T : Txt K mg C_Shape C_InvalidData C_InvalidShape C_StayError) (R : Prg K mg C_Shape C_InvalidData C_InvalidShape C_StayError) : ∃ f fd, Fn P w K mg base "has_names" 1 ["value", "names"] (spV (.bl true) (preNames K)) f fd := by
  obtain ⟨f, fd, at_, F, kp⟩ := R.has_names
  refine ⟨f, fd, F.ok sc_has_names (fun vs H Q E h => ?_) (fun cdv A outer s H vs Q E hr h => ?_), at_, kp, F.binds (fun _ _ _ _ _ _ us hl => match us, hl with | [_, _], _ => rfl)⟩
  · obtain ⟨⟨v, a, n, S, l, ns, rfl, _⟩, _⟩ := h; rfl
  · obtain ⟨⟨v, a, n, S, l, ns, rfl, hv, ha, hn, hl, hk⟩, k⟩ := h
    cases n with
    | zero => exact hv.elim
    | succ n =>
    obtain ⟨d, es, rfl, _, hd, _, pr⟩ := hv
    have le : es.length = ns.length := (pair_len pr).symm.trans hl
    refine ⟨_, (pss_one (ps_ret (pe_and (pe_callB (r := rIsi K) call_isi (by rfl) T.isinstance (by decide +kernel) (pa_cons (pv 0) (pa_cons (pe_bltn (v := .ty "dict") (by rfl) T.dict boot_dict rfl) pa_nil))) (pe_and (pe_cmpR op_eq (pe_callB call_lenD (by rfl) T.len (by decide +kernel) (pa_cons (pv 0) pa_nil)) (pe_callB (r := rLenA K) call_len (by rfl) T.len (by decide +kernel) (pa_cons (pv 1) pa_nil)) (nomark _)) (pe_one (pe_callB (r := rAll K) (cr_all rfl) (by rfl) T.all (by decide +kernel) (pa_cons (pe_lc (own := [("name", 2)]) rfl sc_has_names.nd (show PI _ _ _ (iList K _) from pi_list (pv 1)) (blkOk_by (own := [("name", 2)]) (N := ["value", "names", "name"]) (sc := defScope s_has_names) (by decide +kernel)) (fun _ _ _ _ _ => (pg_name (i := 2) sc_has_names.nd rfl (Or.inl rfl))) (fun _ _ _ _ _ => pts_nil) (fun _ _ _ _ _ => (pe_cmp (pc_din (hu_of hr) (pv 2) (pv 0)) rfl))) pa_nil))))))), ?_⟩
    refine Evl.s_ret (Evl.ev_is (Evl.ev_andV (a := true) (b := true) (ev_isi (Evl.ev_var rfl) (fun H1 e1 => .base (.dK (e1 _ _ hd))) (kit_ty (by decide +kernel))) fun _ => Evl.ev_is (Evl.ev_andV (a := true) (b := true) (Evl.ev_is (Evl.ev_op (ev_lenK (Evl.ev_var rfl) hd) (ev_lenL (Evl.ev_var rfl) (.inl ha)) (Evl.rv_eq rfl)) ?_) fun _ => ev_allT (el_lcA (Evl.ev_var rfl) ha (by rw [List.length_map]; omega) (fun _ => rfl) fun i x hx H2 e2 => ?_)) rfl) rfl) fun H2 e2 => k H2 e2
    · rw [List.length_map, le]; simp
    · obtain ⟨z, hz, rfl⟩ : ∃ z, ns[i]? = some z ∧ x = .str z := by
        rw [List.getElem?_map] at hx
        cases e : ns[i]? with
        | none => rw [e] at hx; cases hx
        | some z => rw [e] at hx; exact ⟨z, rfl, (Option.some.inj hx).symm⟩
      refine Evl.ev_is (ev_din (Evl.ev_var rfl) (Evl.ev_var rfl) (.inl (e2 _ _ hd))) ?_
      have q := hk z (List.mem_of_getElem? hz)
      cases e : l.lookup z with
      | none => rw [e] at q; cases q
      | some d0 =>
        obtain ⟨v0, hv0, _⟩ := pair_lk pr e
        rw [hv0]; rfl
def preNamed : List V → Hp → Prop := fun vs H => ∃ (v : V) (m : Int) (n : Nat) (S : Addr → Prop) (l : List (Str × D)), vs = [v, .int m] ∧ Rep H n S (.dic l) v ∧ (l.length : Int) ≤ m ∧ ∀ p ∈ l, isW p.1
theorem ok_is_named (T : Txt K mg C_Shape C_InvalidData C_InvalidShape C_StayError) (R : Prg K mg C_Shape C_InvalidData C_InvalidShape C_StayError) : ∃ f fd, Fn P w K mg base "is_named" 2 ["value", "most"] (spV (.bl true) preNamed) f fd := by
  obtain ⟨_, _, G_is_word⟩ := ok_is_word (P := P) (w := w) (base := base) T R
  obtain ⟨f, fd, at_, F, kp⟩ := R.is_named
  refine ⟨f, fd, F.ok sc_is_named (fun vs H Q E h => ?_) (fun cdv A outer s H vs Q E hr h => ?_), at_, kp, F.binds (fun _ _ _ _ _ _ us hl => match us, hl with | [_, _], _ => rfl)⟩
  · obtain ⟨⟨v, m, n, S, l, rfl, _⟩, _⟩ := h; rfl
  · obtain ⟨⟨v, m, n, S, l, rfl, hv, hm, hk⟩, k⟩ := h
    cases n with
    | zero => exact hv.elim
    | succ n =>
    obtain ⟨d, es, rfl, _, hd, h5, pr⟩ := hv
    have le : l.length = es.length := pair_len pr
    refine ⟨_, (pss_one (ps_ret (pe_and (pe_callB (r := rIsi K) call_isi (by rfl) T.isinstance (by decide +kernel) (pa_cons (pv 0) (pa_cons (pe_bltn (v := .ty "dict") (by rfl) T.dict boot_dict rfl) pa_nil))) (pe_and (pe_cmpR op_le (pe_callB call_lenD (by rfl) T.len (by decide +kernel) (pa_cons (pv 0) pa_nil)) (pv 1) (nomark _)) (pe_one (pe_callB (r := rAll K) (cr_all rfl) (by rfl) T.all (by decide +kernel) (pa_cons (pe_lock (pe_lc (own := [("key", 2)]) rfl sc_is_named.nd (pi_keys (pv 0)) (blkOk_by (own := [("key", 2)]) (N := ["value", "most", "key"]) (sc := defScope s_is_named) (by decide +kernel)) (fun _ _ _ _ _ => (pg_name (i := 2) sc_is_named.nd rfl (Or.inl rfl))) (fun _ _ _ _ _ => pts_nil) (fun _ _ _ _ _ => (pcl G_is_word hr (pa_cons (pv 2) pa_nil))))) pa_nil))))))), ?_⟩
    refine Evl.s_ret (Evl.ev_is (Evl.ev_andV (a := true) (b := true) (ev_isi (Evl.ev_var rfl) (fun H1 e1 => .base (.dK (e1 _ _ hd))) (kit_ty (by decide +kernel))) fun _ => Evl.ev_is (Evl.ev_andV (a := true) (b := true) (Evl.ev_is (Evl.ev_op (ev_lenK (Evl.ev_var rfl) hd) (Evl.ev_var rfl) Evl.rv_I0) ?_) fun _ => ev_allT (el_lcK (fun H1 => Evl.ev_var rfl) hd (by omega) (fun _ => rfl) fun i x v hx od H1 H2 e1 e2 => ?_)) rfl) rfl) fun H2 e2 => k H2 e2
    · rw [decide_eq_true (by omega : (es.length : Int) ≤ m)]
    · obtain ⟨p, hp, hx1, _⟩ := pair_back pr hx
      have hx1 : x = Sum.inr p.1 := hx1
      subst hx1
      exact spV_ev (Evl.ea_cons (Evl.ev_var rfl) Evl.ea_nil) fun H3 _ => ⟨p.1, rfl, hk p (List.mem_of_getElem? hp)⟩
end
end Pk

namespace Pk
open PySem PySem.Spec PyProof.Rows L2 Ssb
open Evl (Ex Ev EvT EvL EvA EvU)
/-! ### shapes as data -/
abbrev Fl := List (Str × List Str)
def flD (f : Fl) : D := .dic (f.map fun p => (p.1, .tup (p.2.map .str)))
def okFl (f : Fl) : Prop := f.length ≤ 2 ∧ (f.map (·.1)).Nodup ∧ ∀ p ∈ f, isW p.1 ∧ 2 ≤ p.2.length ∧ p.2.length ≤ 3 ∧ (∀ x ∈ p.2, isW x) ∧ p.2.Nodup
abbrev Sh := List (Str × Fl × List (Str × Fl))
def ls0 (d : D) (f : Fl) : Prop := ∃ l, d = .dic l ∧ l.length = 2 ∧ l.lookup ("fields" : Str) = some (flD f) ∧ l.lookup ("inner" : Str) = some (.dic [])
def ls1 (d : D) (f : Fl) (i : List (Str × Fl)) : Prop := ∃ l e, d = .dic l ∧ l.length = 2 ∧ l.lookup ("fields" : Str) = some (flD f) ∧ l.lookup ("inner" : Str) = some (.dic e) ∧ Paired (fun (p : Str × D) (q : Str × Fl) => p.1 = q.1 ∧ ls0 p.2 q.2) e i
def shD (d : D) (s : Sh) : Prop := ∃ l, d = .dic l ∧ Paired (fun (p : Str × D) (q : Str × Fl × List (Str × Fl)) => p.1 = q.1 ∧ ls1 p.2 q.2.1 q.2.2) l s
/-- the rows: a name, the name around it, the fields -/
abbrev Ro := Str × Option Str × Fl
def rowsOf (p : Str × Fl × List (Str × Fl)) : List Ro := (p.1, none, p.2.1) :: p.2.2.map fun q => (q.1, some p.1, q.2)
def rowsS (s : Sh) : List Ro := s.flatMap rowsOf
def okSh (s : Sh) : Prop := s.length ≤ 2 ∧ ((rowsS s).map (·.1)).Nodup ∧ ∀ p ∈ s, isW p.1 ∧ okFl p.2.1 ∧ p.2.2.length ≤ 1 ∧ ∀ q ∈ p.2.2, isW q.1 ∧ okFl q.2
def oV : Option Str → V
  | none => .non
  | some x => .str x
theorem rep_strs {H : Hp} {n : Nat} {S : Addr → Prop} : ∀ {ws : List Str} {xs : List V}, Paired (fun d x => Rep H n S d x) (ws.map D.str) xs → xs = ws.map V.str
  | [], _, .nil => rfl
  | y :: ws, _, .cons h t => by
    cases n with
    | zero => exact h.elim
    | succ n =>
    have h : _ = V.str y := h
    rw [rep_strs t, h]; rfl
theorem rep_words {H : Hp} {n : Nat} {S : Addr → Prop} {ws : List Str} {v : V} (h : Rep H n S (.tup (ws.map .str)) v) : ∃ a, v = .ref a ∧ H a = some (.tup (ws.map V.str)) := by
  cases n with
  | zero => exact h.elim
  | succ n =>
  obtain ⟨a, xs, e, ha, _, pr⟩ := h
  exact ⟨a, e, by rw [ha, rep_strs pr]⟩
/-- within a lock of d -/
theorem rep_in {H1 H2 : Hp} {n : Nat} {S : Addr → Prop} {x : D} {v : V} {d : Addr} {es : List (Key × V)} {u : HO} (hd : H1 d = some (.dK es)) (e2 : Ex (upd H1 d u) H2) (h : Rep H1 n (fun b => S b ∧ b ≠ d) x v) : Rep H2 n (fun b => S b ∧ b ≠ d) x v :=
  rep_ex e2 (rep_lock hd (fun _ z => z.2) h)
section
variable {P : Program} {w : World} {K : PySem.W.Frag} {mg : Str → Option Value} {base : Heap} {C_Shape C_InvalidData C_InvalidShape C_StayError : Addr}
def preFields : List V → Hp → Prop := fun vs H => ∃ (v : V) (n : Nat) (S : Addr → Prop) (f : Fl), vs = [v] ∧ Rep H n S (flD f) v ∧ okFl f
theorem ok_are_fields (T : Txt K mg C_Shape C_InvalidData C_InvalidShape C_StayError) (R : Prg K mg C_Shape C_InvalidData C_InvalidShape C_StayError) : ∃ f fd, Fn P w K mg base "are_fields" 3 ["fields"] (spV (.bl true) preFields) f fd := by
  obtain ⟨_, _, G_is_named⟩ := ok_is_named (P := P) (w := w) (base := base) T R
  obtain ⟨_, _, G_are_words⟩ := ok_are_wordsT (P := P) (w := w) (base := base) T R
  obtain ⟨f, fd, at_, F, kp⟩ := R.are_fields
  refine ⟨f, fd, F.ok sc_are_fields (fun vs H Q E h => ?_) (fun cdv A outer s H vs Q E hr h => ?_), at_, kp, F.binds (fun _ _ _ _ _ _ us hl => match us, hl with | [_], _ => rfl)⟩
  · obtain ⟨⟨v, n, S, f, rfl, _⟩, _⟩ := h; rfl
  · obtain ⟨⟨v, n, S, f, rfl, hv, h2, hnd, hf⟩, k⟩ := h
    cases n with
    | zero => exact hv.elim
    | succ n =>
    obtain ⟨d, es, rfl, _, hd, h5, pr⟩ := id hv
    have le : f.length = es.length := by rw [← pair_len pr, List.length_map]
    refine ⟨_, (pss_cons (ps_if (pt_not (pt_val (pcl G_is_named hr (pa_cons (pv 0) (pa_cons pe_int pa_nil))))) pss_never pss_nil)
  (pss_one (ps_ret (pe_callB (r := rAll K) (cr_all rfl) (by rfl) T.all (by decide +kernel) (pa_cons (pe_lock (pe_lc (own := [("words", 1)]) rfl sc_are_fields.nd (pi_values (pv 0)) (blkOk_by (own := [("words", 1)]) (N := ["fields", "words"]) (sc := defScope s_are_fields) (by decide +kernel)) (fun _ _ _ _ _ => (pg_name (i := 1) sc_are_fields.nd rfl (Or.inl rfl))) (fun _ _ _ _ _ => pts_nil) (fun _ _ _ _ _ => (pe_and (pe_callB (r := rIsi K) call_isi (by rfl) T.isinstance (by decide +kernel) (pa_cons (pv 1) (pa_cons (pe_bltn (v := .ty "tuple") (by rfl) T.tuple boot_tuple rfl) pa_nil))) (pe_one (pcl G_are_words hr (pa_cons (pv 1) (pa_cons pe_int (pa_cons pe_int pa_nil))))))))) pa_nil))))), ?_⟩
    refine Evl.q_when (b := false) (Evl.et_not (a := true) (Evl.et_B (spV_ev (Evl.ea_cons (Evl.ev_var rfl) (Evl.ea_cons Evl.ev_c Evl.ea_nil)) fun H1 e1 => ⟨_, 2, n + 1, S, _, rfl, rep_ex e1 hv, by rw [List.length_map]; omega, fun p hp => ?_⟩))) (fun h => nomatch h) fun _ H1 e1 => Evl.s_ret (ev_allT (el_lcV (fun _ _ _ => Evl.ev_var rfl) (e1 _ _ hd) (by omega) (fun _ => rfl) fun i x v hx od H2 H3 e2 e3 => ?_)) fun H2 e2 => k H2 (e1.trans e2)
    · obtain ⟨q, hq, rfl⟩ := List.mem_map.mp hp
      exact (hf q hq).1
    · obtain ⟨p, hp, _, hr1⟩ := pair_back pr hx
      rw [List.getElem?_map] at hp
      cases ef : f[i]? with
      | none => rw [ef] at hp; cases hp
      | some q =>
        rw [ef] at hp
        cases hp
        obtain ⟨_, ha2, ha3, hw, hn⟩ := hf q (List.mem_of_getElem? ef)
        obtain ⟨a, rfl, ha⟩ := rep_words (rep_in ((e1.trans e2) _ _ hd) e3 (rep_ex (e1.trans e2) hr1))
        exact Evl.ev_is (Evl.ev_andV (a := true) (b := true) (ev_isi (Evl.ev_var rfl) (fun H4 e4 => .base (.tup (e4 _ _ ha))) (kit_ty (by decide +kernel))) fun _ => spV_ev (Evl.ea_cons (Evl.ev_var rfl) (Evl.ea_cons Evl.ev_c (Evl.ea_cons Evl.ev_c Evl.ea_nil))) fun H4 e4 => ⟨a, q.2, 2, 3, rfl, Evl.st_of (e4 _ _ ha), by omega, by omega, by omega, hw, hn⟩) rfl
def preLs : List V → Hp → Prop := fun vs H => ∃ (v : V) (m : Int) (n : Nat) (S : Addr → Prop) (l : List (Str × D)), vs = [v, .int m] ∧ Rep H n S (.dic l) v ∧ (l.length : Int) ≤ m ∧ ∀ p ∈ l, isW p.1 ∧ ∃ l', p.2 = .dic l' ∧ l'.length = 2 ∧ (l'.lookup ("fields" : Str)).isSome = true ∧ (l'.lookup ("inner" : Str)).isSome = true
theorem ok_are_list_shapes (T : Txt K mg C_Shape C_InvalidData C_InvalidShape C_StayError) (R : Prg K mg C_Shape C_InvalidData C_InvalidShape C_StayError) : ∃ f fd, Fn P w K mg base "are_list_shapes" 3 ["lists", "most"] (spV (.bl true) preLs) f fd := by
  obtain ⟨_, _, G_is_named⟩ := ok_is_named (P := P) (w := w) (base := base) T R
  obtain ⟨_, _, G_has_names⟩ := ok_has_names (P := P) (w := w) (base := base) T R
  obtain ⟨f, fd, at_, F, kp⟩ := R.are_list_shapes
  refine ⟨f, fd, F.ok sc_are_list_shapes (fun vs H Q E h => ?_) (fun cdv A outer s H vs Q E hr h => ?_), at_, kp, F.binds (fun _ _ _ _ _ _ us hl => match us, hl with | [_, _], _ => rfl)⟩
  · obtain ⟨⟨v, m, n, S, l, rfl, _⟩, _⟩ := h; rfl
  · obtain ⟨⟨v, m, n, S, l, rfl, hv, hm, hl⟩, k⟩ := h
    cases n with
    | zero => exact hv.elim
    | succ n =>
    obtain ⟨d, es, rfl, _, hd, h5, pr⟩ := id hv
    have le : l.length = es.length := pair_len pr
    refine ⟨_, (pss_cons (ps_if (pt_not (pt_val (pcl G_is_named hr (pa_cons (pv 0) (pa_cons (pv 1) pa_nil))))) pss_never pss_nil)
  (pss_one (ps_ret (pe_callB (r := rAll K) (cr_all rfl) (by rfl) T.all (by decide +kernel) (pa_cons (pe_lock (pe_lc (own := [("one", 2)]) rfl sc_are_list_shapes.nd (pi_values (pv 0)) (blkOk_by (own := [("one", 2)]) (N := ["lists", "most", "one"]) (sc := defScope s_are_list_shapes) (by decide +kernel)) (fun _ _ _ _ _ => (pg_name (i := 2) sc_are_list_shapes.nd rfl (Or.inl rfl))) (fun _ _ _ _ _ => pts_nil) (fun _ _ _ _ _ => (pcl G_has_names hr (pa_cons (pv 2) (pa_cons (pe_lst (pa_cons pe_str (pa_cons pe_str pa_nil))) pa_nil)))))) pa_nil))))), ?_⟩
    refine Evl.q_when (b := false) (Evl.et_not (a := true) (Evl.et_B (spV_ev (Evl.ea_cons (Evl.ev_var rfl) (Evl.ea_cons (Evl.ev_var rfl) Evl.ea_nil)) fun H1 e1 => ⟨_, m, n + 1, S, l, rfl, rep_ex e1 hv, hm, fun p hp => (hl p hp).1⟩))) (fun h => nomatch h) fun _ H1 e1 => Evl.s_ret (ev_allT (el_lcV (fun _ _ _ => Evl.ev_var rfl) (e1 _ _ hd) (by omega) (fun _ => rfl) fun i x v hx od H2 H3 e2 e3 => ?_)) fun H2 e2 => k H2 (e1.trans e2)
    obtain ⟨p, hp, _, hr1⟩ := pair_back pr hx
    obtain ⟨_, l', e', hl', hf', hi'⟩ := hl p (List.mem_of_getElem? hp)
    rw [e'] at hr1
    refine ev_fnL (Evl.ev_var rfl) (Evl.el_lst (Evl.ea_cons Evl.ev_c (Evl.ea_cons Evl.ev_c Evl.ea_nil)) (by decide)) fun a H4 e4 ha Q q => ⟨⟨v, a, n, _, l', ["fields", "inner"], rfl, rep_ex e4 (rep_in ((e1.trans e2) _ _ hd) e3 (rep_ex (e1.trans e2) hr1)), Evl.sq_of ha, by decide, hl', fun z hz => ?_⟩, q⟩
    rcases List.mem_cons.mp hz with rfl | hz
    · exact hf'
    · rw [List.mem_singleton.mp hz]; exact hi'
theorem ls0_in {l : List (Str × D)} {i : List (Str × Fl)} (pr : Paired (fun (p : Str × D) (q : Str × Fl) => p.1 = q.1 ∧ ls0 p.2 q.2) l i) (hw : ∀ q ∈ i, isW q.1) : ∀ p ∈ l, isW p.1 ∧ ∃ l', p.2 = .dic l' ∧ l'.length = 2 ∧ (l'.lookup ("fields" : Str)).isSome = true ∧ (l'.lookup ("inner" : Str)).isSome = true := fun p hp => by
  obtain ⟨j, hj, ej⟩ := List.mem_iff_getElem.mp hp
  obtain ⟨q, hq, e1, l', e2, h2, h3, h4⟩ := pair_at pr (i := j) (a := p) (by rw [← ej]; exact List.getElem?_eq_getElem hj)
  exact ⟨e1 ▸ hw q (List.mem_of_getElem? hq), l', e2, h2, by rw [h3]; rfl, by rw [h4]; rfl⟩
theorem ls1_in {l : List (Str × D)} {s : Sh} (pr : Paired (fun (p : Str × D) (q : Str × Fl × List (Str × Fl)) => p.1 = q.1 ∧ ls1 p.2 q.2.1 q.2.2) l s) (hw : ∀ q ∈ s, isW q.1) : ∀ p ∈ l, isW p.1 ∧ ∃ l', p.2 = .dic l' ∧ l'.length = 2 ∧ (l'.lookup ("fields" : Str)).isSome = true ∧ (l'.lookup ("inner" : Str)).isSome = true := fun p hp => by
  obtain ⟨j, hj, ej⟩ := List.mem_iff_getElem.mp hp
  obtain ⟨q, hq, e1, l', e, e2, h2, h3, h4, _⟩ := pair_at pr (i := j) (a := p) (by rw [← ej]; exact List.getElem?_eq_getElem hj)
  exact ⟨e1 ▸ hw q (List.mem_of_getElem? hq), l', e2, h2, by rw [h3]; rfl, by rw [h4]; rfl⟩
/-- an entry of a dict of data -/
theorem rep_entry {H : Hp} {n : Nat} {S : Addr → Prop} {l : List (Str × D)} {k : Str} {d : D} {a : Addr} {es : List (Key × V)} (pr : Paired (fun (q : Str × D) (e : Key × V) => e.1 = Sum.inr q.1 ∧ Rep H n (fun b => S b ∧ b ≠ a) q.2 e.2) l es) (hk : l.lookup k = some d) :
    ∃ v, valV es (Sum.inr k : Key) = some v ∧ Rep H n (fun b => S b ∧ b ≠ a) d v := pair_lk (F := fun d v => Rep H n (fun b => S b ∧ b ≠ a) d v) pr hk
def preLists : List V → Hp → Prop := fun vs H => ∃ (v : V) (n : Nat) (S : Addr → Prop) (d : D) (s : Sh), vs = [v] ∧ Rep H n S d v ∧ shD d s ∧ okSh s
theorem ok_are_lists (T : Txt K mg C_Shape C_InvalidData C_InvalidShape C_StayError) (R : Prg K mg C_Shape C_InvalidData C_InvalidShape C_StayError) : ∃ f fd, Fn P w K mg base "are_lists" 4 ["lists"] (spV (.bl true) preLists) f fd := by
  obtain ⟨_, _, G_are_list_shapes⟩ := ok_are_list_shapes (P := P) (w := w) (base := base) T R
  obtain ⟨f, fd, at_, F, kp⟩ := R.are_lists
  refine ⟨f, fd, F.ok sc_are_lists (fun vs H Q E h => ?_) (fun cdv A outer s H vs Q E hr h => ?_), at_, kp, F.binds (fun _ _ _ _ _ _ us hl => match us, hl with | [_], _ => rfl)⟩
  · obtain ⟨⟨v, n, S, d, s, rfl, _⟩, _⟩ := h; rfl
  · obtain ⟨⟨v, n, S, _, z, rfl, hv, ⟨l, rfl, ps⟩, hz2, hznd, hz⟩, k⟩ := h
    cases n with
    | zero => exact hv.elim
    | succ n =>
    obtain ⟨d, es, rfl, _, hd, h5, pr⟩ := id hv
    have le : l.length = es.length := pair_len pr
    have lz : l.length = z.length := pair_len ps
    refine ⟨_, (pss_cons (ps_if (pt_not (pt_val (pcl G_are_list_shapes hr (pa_cons (pv 0) (pa_cons pe_int pa_nil))))) pss_never pss_nil)
  (pss_cons (ps_lock (ps_for PassesOwn.never rfl (pi_values (pv 0)) (pg_name (i := 1) sc_are_lists.nd rfl (Or.inl rfl))
    (pss_cons (ps_if (pt_not (pt_val (pcl G_are_list_shapes hr (pa_cons (pe_dget (hu_of hr) (pv 1) pe_str (fun _ _ => rfl)) (pa_cons pe_int pa_nil))))) pss_never pss_nil)
  (pss_one (ps_if (pt_not (pt_val (pe_callB (r := rAll K) (cr_all rfl) (by rfl) T.all (by decide +kernel) (pa_cons (pe_lock (pe_lc (own := [("inner", 2)]) rfl sc_are_lists.nd (pi_values (pe_dget (hu_of hr) (pv 1) pe_str (fun _ _ => rfl))) (blkOk_by (own := [("inner", 2)]) (N := ["lists", "outer", "inner"]) (sc := defScope s_are_lists) (by decide +kernel)) (fun _ _ _ _ _ => (pg_name (i := 2) sc_are_lists.nd rfl (Or.inl rfl))) (fun _ _ _ _ _ => pts_nil) (fun _ _ _ _ _ => (pcl G_are_list_shapes hr (pa_cons (pe_dget (hu_of hr) (pv 2) pe_str (fun _ _ => rfl)) (pa_cons pe_int pa_nil)))))) pa_nil)))) pss_never pss_nil)))))
  (pss_one (ps_ret pe_bl)))), ?_⟩
    refine Evl.q_when (b := false) (Evl.et_not (a := true) (Evl.et_B (spV_ev (Evl.ea_cons (Evl.ev_var rfl) (Evl.ea_cons Evl.ev_c Evl.ea_nil)) fun H1 e1 => ⟨_, 2, n + 1, S, l, rfl, rep_ex e1 hv, by omega, ls1_in ps fun q hq => (hz q hq).1⟩))) (fun h => nomatch h) fun _ H1 e1 => ?_
    have hd1 := e1 _ _ hd
    refine for_lock (J := fun od => Itd d od es) (xs := fun _ => none) hd1 (fun od R r => ⟨_, rfl, d, od, es, rfl, upd_same, r⟩) (fun od => walk_values) (fun od i σ' H' => ∃ o1, σ' = [some (.ref d), o1, none] ∧ Ex (upd H1 d (.frz od (.dK es))) H') (fun od => ⟨_, rfl, Ex.refl _⟩) (fun od i σ' H' _ ⟨_, _, e⟩ => e _ _ upd_same) (fun od i x σ' H' H2 hi ⟨o1, eσ, e⟩ y => ?_) fun od σ' H' ⟨_, _, e⟩ => k _ (e1.trans (unlock hd1 e))
    subst eσ
    obtain ⟨rfl, key, hx⟩ := y
    obtain ⟨p, hp, _, hr1⟩ := pair_back pr hx
    obtain ⟨q, hq, _, l1, e', ep, _, _, hin, pi⟩ := pair_at ps hp
    obtain ⟨_, _, hq1, hqw⟩ := hz q (List.mem_of_getElem? hq)
    rw [ep] at hr1
    have hr2 := rep_in hd1 e (rep_ex e1 hr1)
    cases n with
    | zero => exact hr2.elim
    | succ n =>
    obtain ⟨de, ee, rfl, ⟨_, nde⟩, hde, _, pe⟩ := id hr2
    obtain ⟨vi, hvi, hri⟩ := rep_entry pe hin
    refine Evl.q_when (b := false) (Evl.et_not (a := true) (Evl.et_B (spV_ev (Evl.ea_cons (ev_get (Evl.ev_var rfl) Evl.ev_c (.inl hde) hvi) (Evl.ea_cons Evl.ev_c Evl.ea_nil)) fun H4 e4 => ⟨_, 1, n, _, e', rfl, rep_ex e4 hri, by rw [pair_len pi]; omega, ls0_in pi fun q' hq' => (hqw q' hq').1⟩))) (fun h => nomatch h) fun _ H4 e4 => ?_
    cases n with
    | zero => exact hri.elim
    | succ n =>
    obtain ⟨di, ei, rfl, ⟨_, ndi⟩, hdi, hl5, pri⟩ := id hri
    have le' := pair_len pri
    refine Evl.s_when (b := false) (Evl.et_not (a := true) (Evl.et_B (ev_allT (el_lcV (fun H5 e5 od' => ?_) (e4 _ _ hdi) (by omega) (fun _ => rfl) fun i' x' v' hx' od' H5 H6 e5 e6 => ?_)))) (fun h => nomatch h) fun _ H5 e5 => ⟨_, rfl, e.trans (e4.trans e5)⟩
    · exact ev_get (Evl.ev_var rfl) Evl.ev_c (.inl (by rw [upd_ne ndi.symm]; exact (e4.trans e5) _ _ hde)) hvi
    · obtain ⟨p', hp', _, hr'⟩ := pair_back pri hx'
      obtain ⟨q', hq', _, l2, ep2, _, _, hin2⟩ := pair_at pi hp'
      rw [ep2] at hr'
      have hr3 := rep_in ((e4.trans e5) _ _ hdi) e6 (rep_ex (e4.trans e5) hr')
      cases n with
      | zero => exact hr3.elim
      | succ n =>
      obtain ⟨dj, ej, rfl, _, hdj, _, pj⟩ := id hr3
      obtain ⟨vj, hvj, hrj⟩ := rep_entry pj hin2
      exact spV_ev (Evl.ea_cons (ev_get (Evl.ev_var rfl) Evl.ev_c (.inl hdj) hvj) (Evl.ea_cons Evl.ev_c Evl.ea_nil)) fun H7 e7 => ⟨_, 0, n, _, [], rfl, rep_ex e7 hrj, by decide, fun _ hm => nomatch hm⟩
end
end Pk

namespace Pk
open PySem PySem.Spec PyProof.Rows L2 Ssb
open Evl (Ex Ev EvT EvL EvA EvU)
/-- a row's tuple at H', its fields as they stand at H -/
def RowAt (H H' : Hp) (n : Nat) (S : Addr → Prop) (r : Ro) (x : V) : Prop := ∃ a fv, x = .ref a ∧ H' a = some (.tup [.str r.1, oV r.2.1, fv]) ∧ Rep H n S (flD r.2.2) fv
theorem rowAt_to {H H' H2 : Hp} {n : Nat} {S : Addr → Prop} {r : Ro} {x : V} (k : ∀ a xs, H' a = some (.tup xs) → H2 a = some (.tup xs)) (h : RowAt H H' n S r x) : RowAt H H2 n S r x := by
  obtain ⟨a, fv, e, ha, hr⟩ := h; exact ⟨a, fv, e, k a _ ha, hr⟩
theorem ex_tup {H H' : Hp} (e : Ex H H') : ∀ a xs, H a = some (.tup xs) → H' a = some (.tup xs) := fun a xs h => e a _ h
theorem upd_tup {H : Hp} {d : Addr} {o u : HO} (hd : H d = some o) (no : ∀ xs, o ≠ .tup xs) : ∀ a xs, H a = some (.tup xs) → (upd H d u) a = some (.tup xs) := fun a xs h => by
  by_cases e : a = d
  · subst e; rw [hd] at h; exact absurd (Option.some.inj h) (no xs)
  · rw [upd_ne e]; exact h
section
variable {P : Program} {w : World} {K : PySem.W.Frag} {mg : Str → Option Value} {base : Heap} {C_Shape C_InvalidData C_InvalidShape C_StayError : Addr}
def spRows : Sp := fun vs H Q _ => ∃ (v : V) (n : Nat) (S : Addr → Prop) (d : D) (s : Sh), vs = [v] ∧ Rep H n S d v ∧ shD d s ∧ okSh s ∧
  ∀ H' p xs, Ex H H' → H p = none → H' p = some (.lst xs) → Paired (RowAt H H' n S) (rowsS s) xs → Q (.ref p) H'
theorem ok_list_rows (T : Txt K mg C_Shape C_InvalidData C_InvalidShape C_StayError) (R : Prg K mg C_Shape C_InvalidData C_InvalidShape C_StayError) : ∃ f fd, Fn P w K mg base "list_rows" 1 ["lists"] spRows f fd := by
  obtain ⟨f, fd, at_, F, kp⟩ := R.list_rows
  refine ⟨f, fd, F.ok sc_list_rows (fun vs H Q E h => ?_) (fun cdv A outer s H vs Q E hr h => ?_), at_, kp, F.binds (fun _ _ _ _ _ _ us hl => match us, hl with | [_], _ => rfl)⟩
  · obtain ⟨v, n, S, d, s, rfl, _⟩ := h; rfl
  · obtain ⟨v, n0, S, _, z, rfl, hv, ⟨l, rfl, ps⟩, ⟨hz2, hznd, hz⟩, k⟩ := h
    cases n0 with
    | zero => exact hv.elim
    | succ n =>
    obtain ⟨d, es, rfl, _, hd, h5, pr⟩ := id hv
    have le : l.length = es.length := pair_len pr
    have lz : l.length = z.length := pair_len ps
    refine ⟨_, (pss_cons (ps_set (i := 1) sc_list_rows.nd rfl (Or.inl rfl) (pe_lst pa_nil))
  (pss_cons (ps_lock (ps_for PassesOwn.never rfl (pi_items (pv 0)) (show PG _ _ (gTup K 2 _) from pg_tup (n := 2) rfl (pgs_cons (pg_name (i := 2) sc_list_rows.nd rfl (Or.inl rfl)) (pgs_cons (pg_name (i := 3) sc_list_rows.nd rfl (Or.inl rfl)) pgs_nil)))
    (pss_cons (ps_expr (show PE _ _ (tBM K _ _ _ _) from pe_bm PySem.F.plainAttrs_list PySem.F.slot_list_append PySem.F.type_list_append mt_append (pv 1) (pa_cons (pe_tup (pa_cons (pv 2) (pa_cons pe_non (pa_cons (pe_dget (hu_of hr) (pv 3) pe_str (fun _ _ => rfl)) pa_nil)))) pa_nil)))
  (pss_one (ps_lock (ps_for PassesOwn.never rfl (pi_items (pe_dget (hu_of hr) (pv 3) pe_str (fun _ _ => rfl))) (show PG _ _ (gTup K 2 _) from pg_tup (n := 2) rfl (pgs_cons (pg_name (i := 4) sc_list_rows.nd rfl (Or.inl rfl)) (pgs_cons (pg_name (i := 5) sc_list_rows.nd rfl (Or.inl rfl)) pgs_nil)))
    (pss_one (ps_expr (show PE _ _ (tBM K _ _ _ _) from pe_bm PySem.F.plainAttrs_list PySem.F.slot_list_append PySem.F.type_list_append mt_append (pv 1) (pa_cons (pe_tup (pa_cons (pv 4) (pa_cons (pv 2) (pa_cons (pe_dget (hu_of hr) (pv 5) pe_str (fun _ _ => rfl)) pa_nil)))) pa_nil))))))))))
  (pss_one (ps_ret (pv 1))))), ?_⟩
    refine Evl.q_asgL (Evl.el_lst Evl.ea_nil (by decide)) fun r H1 hr0 e1 hr1 => ?_
    have hd1 := e1 _ _ hd
    have ndr : r ≠ d := fun e => by rw [e, hd] at hr0; cases hr0
    refine for_lock (J := fun od => Iti d od es) (xs := fun _ => none) hd1 (fun od G g => ⟨_, rfl, d, od, es, rfl, upd_same, g⟩) (fun od => walk_items)
      (fun od i σ' H' => ∃ x2 x3 x4 x5 acc, σ' = [some (.ref d), some (.ref r), x2, x3, x4, x5] ∧ Ex (upd H d (.frz od (.dK es))) H' ∧ H' r = some (.lst acc) ∧ acc.length ≤ 2 * i ∧ Paired (RowAt H H' (n + 1) S) (rowsS (z.take i)) acc)
      (fun od => ⟨_, _, _, _, [], rfl, fun a o ha => ?_, by rw [upd_ne ndr]; exact hr1, Nat.zero_le _, .nil⟩) (fun od i σ' H' _ ⟨_, _, _, _, _, _, e, _⟩ => e _ _ upd_same) (fun od i x σ' H' H2 hi ⟨x2, x3, x4, x5, acc, eσ, e, hacc, hlen, hrows⟩ y => ?_) fun od σ' H' ⟨x2, x3, x4, x5, acc, eσ, e, hacc, hlen, hrows⟩ => ?_
    · by_cases ed : a = d
      · subst ed; rw [upd_same] at ha ⊢; exact ha
      · rw [upd_ne ed] at ha ⊢; exact e1 a o ha
    · subst eσ
      obtain ⟨Tp, x1, v1, rfl, nT, rfl, hx1, hv1⟩ := y
      have hx1 : Option.map (fun kv : Key × V => kV kv.1) es[i]? = some x1 := hx1
      have hv1 : Option.map Prod.snd es[i]? = some v1 := hv1
      cases hes : es[i]? with
      | none => rw [hes] at hx1; cases hx1
      | some kv =>
      rw [hes] at hx1 hv1
      obtain ⟨key, vv⟩ := kv
      obtain ⟨p, hp, hk1, hr2⟩ := pair_back pr hes
      obtain ⟨q, hq, ek, l1, e', ep, _, hfl, hin, pi⟩ := pair_at ps hp
      obtain ⟨_, _, hq1, hqw⟩ := hz q (List.mem_of_getElem? hq)
      have hk1 : key = Sum.inr p.1 := hk1
      have ex1 : x1 = .str q.1 := by rw [← ek, ← Option.some.inj hx1, hk1]; rfl
      have ev1 : vv = v1 := Option.some.inj hv1
      subst ex1; subst ev1
      rw [ep] at hr2
      cases n with
      | zero => exact hr2.elim
      | succ n =>
      obtain ⟨de, ee, hde0, ⟨_, nde⟩, hde, _, pe⟩ := id hr2
      have hde0 : vv = .ref de := hde0
      subst hde0
      obtain ⟨vf, hvf, hrf⟩ := rep_entry pe hfl
      obtain ⟨vi, hvi, hri⟩ := rep_entry pe hin
      have step : ∀ {Hx : Hp}, Ex H' Hx → ∀ {a : Addr} {o : HO}, H a = some o → a ≠ d → Hx a = some o := fun ex a o ha hne => ex a o (e a o (by rw [upd_ne hne]; exact ha))
      have nTr : Tp ≠ r := fun z => by rw [z, hacc] at nT; cases nT
      refine ⟨Tp, [.str q.1, .ref de], rfl, Evl.st_of upd_same, rfl, _, _, rfl, _, _, rfl, rfl, ?_⟩
      have eT : Ex H' (upd H' Tp (.tup [.str q.1, .ref de])) := Ex.new nT
      refine Evl.q_appU (l := r) (eT _ _ hacc) (Evl.ev_var rfl) (Evl.eu_tup (Evl.ea_cons (Evl.ev_var rfl) (Evl.ea_cons Evl.ev_c (Evl.ea_cons (ev_get (Evl.ev_var rfl) Evl.ev_c (.inl (step eT hde nde)) hvf) Evl.ea_nil))) (by show 3 ≤ 100000; decide)) (by omega) fun tp H3 htp0 e3 htp => ?_
      have htr : tp ≠ r := fun z => by rw [z, eT _ _ hacc] at htp0; cases htp0
      have er0 : H r = none := hr0
      cases n with
      | zero => exact hri.elim
      | succ n =>
      obtain ⟨di, ei, hdi0, ⟨⟨_, ndi⟩, ndie⟩, hdi, hl5, pri⟩ := id hri
      have ndir : di ≠ r := fun z => by rw [z, er0] at hdi; cases hdi
      subst hdi0
      -- the heap behind the first append
      have e4 : Ex (upd H d (.frz od (.dK es))) (upd H3 r (.lst (acc ++ [.ref tp]))) := by
        refine Ex.mut (e.trans (eT.trans e3)) ?_
        rw [upd_ne ndr]; exact er0
      have hdi4 : (upd H3 r (.lst (acc ++ [.ref tp]))) di = some (.dK ei) := e4 _ _ (by rw [upd_ne ndi]; exact hdi)
      have hde4 : (upd H3 r (.lst (acc ++ [.ref tp]))) de = some (.dK ee) := e4 _ _ (by rw [upd_ne nde]; exact hde)
      have rows4 : Paired (RowAt H (upd H3 r (.lst (acc ++ [.ref tp]))) (n + 1 + 1 + 1) S) (rowsS (z.take i) ++ [(q.1, none, q.2.1)]) (acc ++ [.ref tp]) := by
        have tt : ∀ a xs, H3 a = some (.tup xs) → (upd H3 r (.lst (acc ++ [.ref tp]))) a = some (.tup xs) := upd_tup (e3 _ _ (eT _ _ hacc)) (fun xs h => nomatch h)
        refine pair_snoc (pair_imp hrows fun a b h => rowAt_to (fun a xs h => tt a xs (e3 _ _ (eT _ _ h))) h) ⟨tp, vf, rfl, tt _ _ htp, rep_up (rep_up (rep_S (fun b hb => hb.1.1) hrf))⟩
      have lei := pair_len pri
      have lepi := pair_len pi
      refine for_lock (J := fun od2 => Iti di od2 ei) (xs := fun _ => none) hdi4 (fun od2 G g => ⟨.ref de, rfl, de, .ref di, rfl, .inl ⟨ee, Sum.inr "inner", .inl (by rw [upd_ne ndie.symm]; exact hde4), rfl, hvi.symm⟩, di, od2, ei, rfl, upd_same, g⟩) (fun od2 => walk_items)
        (fun od2 j σ' H5 => ∃ y4 y5 acc2, σ' = [some (.ref d), some (.ref r), some (.str q.1), some (.ref de), y4, y5] ∧ Ex (upd (upd H d (.frz od (.dK es))) di (.frz od2 (.dK ei))) H5 ∧ H5 r = some (.lst acc2) ∧ acc2.length ≤ 2 * i + 1 + j ∧ Paired (RowAt H H5 (n + 1 + 1 + 1) S) (rowsS (z.take i) ++ (q.1, none, q.2.1) :: (q.2.2.take j).map fun g => (g.1, some q.1, g.2)) acc2)
        (fun od2 => ?_) (fun od2 j σ' H5 _ ⟨_, _, _, _, e5, _⟩ => e5 _ _ upd_same) (fun od2 j x σ' H5 H6 hj ⟨y4, y5, acc2, eσ, e5, hacc2, hlen2, hrows2⟩ y => ?_) fun od2 σ' H5 ⟨y4, y5, acc2, eσ, e5, hacc2, hlen2, hrows2⟩ => ?_
      · -- ahead of the inner loop
        refine ⟨_, _, acc ++ [.ref tp], rfl, fun a o ha => ?_, by rw [upd_ne ndir.symm, upd_same], by rw [List.length_append, List.length_singleton]; omega, pair_imp rows4 fun a b h => rowAt_to (upd_tup hdi4 (fun xs h => nomatch h)) h⟩
        by_cases ed : a = di
        · subst ed; rw [upd_same] at ha ⊢; exact ha
        · rw [upd_ne ed] at ha ⊢; exact e4 a o ha
      · -- a turn of the inner loop
        subst eσ
        obtain ⟨Tq, x1, v1, rfl, nT2, rfl, hx1, hv1⟩ := y
        have hx1 : Option.map (fun kv : Key × V => kV kv.1) ei[j]? = some x1 := hx1
        have hv1 : Option.map Prod.snd ei[j]? = some v1 := hv1
        cases hei : ei[j]? with
        | none => rw [hei] at hx1; cases hx1
        | some kv =>
        rw [hei] at hx1 hv1
        obtain ⟨key, vv⟩ := kv
        obtain ⟨p2, hp2, hk2, hr3⟩ := pair_back pri hei
        obtain ⟨q2, hq2, ek2, l2, ep2, _, hfl2, _⟩ := pair_at pi hp2
        have hk2 : key = Sum.inr p2.1 := hk2
        have ex2 : x1 = .str q2.1 := by rw [← ek2, ← Option.some.inj hx1, hk2]; rfl
        have ev2 : vv = v1 := Option.some.inj hv1
        subst ex2; subst ev2
        rw [ep2] at hr3
        cases n with
        | zero => exact hr3.elim
        | succ n =>
        obtain ⟨dj, ej, hdj0, ⟨⟨⟨_, ndj⟩, ndje⟩, ndji⟩, hdj, _, pj⟩ := id hr3
        have hdj0 : vv = .ref dj := hdj0
        subst hdj0
        obtain ⟨vg, hvg, hrg⟩ := rep_entry pj hfl2
        refine ⟨Tq, [.str q2.1, .ref dj], rfl, Evl.st_of upd_same, rfl, _, _, rfl, _, _, rfl, rfl, ?_⟩
        have eT2 : Ex H5 (upd H5 Tq (.tup [.str q2.1, .ref dj])) := Ex.new nT2
        refine Evl.s_appU (l := r) (eT2 _ _ hacc2) (Evl.ev_var rfl) (Evl.eu_tup (Evl.ea_cons (Evl.ev_var rfl) (Evl.ea_cons (Evl.ev_var rfl) (Evl.ea_cons (ev_get (Evl.ev_var rfl) Evl.ev_c (.inl (eT2 _ _ (e5 _ _ (by rw [upd_ne ndji, upd_ne ndj]; exact hdj)))) hvg) Evl.ea_nil))) (by show 3 ≤ 100000; decide)) (by omega) fun tq H7 htq0 e7 htq => ?_
        have r5 : (upd (upd H d (.frz od (.dK es))) di (.frz od2 (.dK ei))) r = none := by rw [upd_ne ndir.symm, upd_ne ndr]; exact er0
        refine ⟨_, _, acc2 ++ [.ref tq], rfl, Ex.mut (e5.trans (eT2.trans e7)) r5, upd_same, by rw [List.length_append, List.length_singleton]; omega, ?_⟩
        have tt : ∀ a xs, H7 a = some (.tup xs) → (upd H7 r (.lst (acc2 ++ [.ref tq]))) a = some (.tup xs) := upd_tup (e7 _ _ (eT2 _ _ hacc2)) (fun xs h => nomatch h)
        have ej2 : (q.2.2.take (j + 1)) = q.2.2.take j ++ [q2] := by rw [List.take_add_one, hq2]; rfl
        rw [ej2, List.map_append]
        have := pair_snoc (pair_imp hrows2 fun a b h => rowAt_to (fun a xs h => tt a xs (e7 _ _ (eT2 _ _ h))) h) (a := (q2.1, some q.1, q2.2)) (b := V.ref tq) ⟨tq, vg, rfl, tt _ _ htq, rep_up (rep_up (rep_up (rep_up (rep_S (fun b hb => hb.1.1.1.1) hrg))))⟩
        rw [List.append_assoc] at this
        exact this
      · -- behind the inner loop
        subst eσ
        refine ⟨_, _, _, _, acc2, rfl, ?_, by rw [upd_ne ndir.symm]; exact hacc2, by omega, ?_⟩
        · refine Ex.trans ?_ (unlock (u := .dK ei) (u' := .frz od2 (.dK ei)) ?_ e5)
          · exact Ex.refl _
          · rw [upd_ne ndi]; exact hdi
        · have ez : rowsS (z.take (i + 1)) = rowsS (z.take i) ++ (q.1, none, q.2.1) :: (q.2.2.take ei.length).map fun g => (g.1, some q.1, g.2) := by
            rw [List.take_add_one, hq]
            have et : q.2.2.take ei.length = q.2.2 := List.take_of_length_le (by omega)
            show (z.take i ++ [q]).flatMap rowsOf = _
            rw [List.flatMap_append, et]
            simp [rowsS, rowsOf]
          rw [ez]
          have hdi5 := e5 _ _ (upd_same (H := upd H d (.frz od (.dK es))))
          exact pair_imp hrows2 fun a b h => rowAt_to (upd_tup hdi5 (fun xs h => nomatch h)) h
    · subst eσ
      refine ⟨.ref r, rfl, k _ r acc (unlock hd e) hr0 (by rw [upd_ne ndr]; exact hacc) ?_⟩
      have ez : z.take es.length = z := List.take_of_length_le (by omega)
      rw [ez] at hrows
      have hd5 := e _ _ (upd_same (H := H))
      exact pair_imp hrows fun a b h => rowAt_to (upd_tup hd5 (fun xs h => nomatch h)) h
end
end Pk

namespace Pk
open PySem PySem.Spec PyProof.Rows L2 Ssb
open Evl (Ex Ev EvT EvL EvA EvU)
theorem okSh_rows {s : Sh} (h : okSh s) : (rowsS s).length ≤ 4 ∧ ∀ r ∈ rowsS s, isW r.1 ∧ okFl r.2.2 := by
  obtain ⟨h2, _, hz⟩ := h
  refine ⟨?_, fun r hr => ?_⟩
  · have key : ∀ l : Sh, (∀ p ∈ l, p.2.2.length ≤ 1) → (rowsS l).length ≤ 2 * l.length := by
      intro l
      induction l with
      | nil => intro _; exact Nat.le_refl _
      | cons p l ih =>
        intro hl
        have i1 := ih fun q hq => hl q (List.mem_cons_of_mem _ hq)
        have i2 := hl p List.mem_cons_self
        show (rowsOf p ++ rowsS l).length ≤ 2 * (l.length + 1)
        rw [List.length_append]
        have : (rowsOf p).length = p.2.2.length + 1 := by simp [rowsOf]
        omega
    have := key s fun p hp => (hz p hp).2.2.1
    omega
  · obtain ⟨p, hp, hr⟩ := List.mem_flatMap.mp hr
    obtain ⟨w1, f1, _, hq⟩ := hz p hp
    rcases List.mem_cons.mp hr with rfl | hr
    · exact ⟨w1, f1⟩
    · obtain ⟨q, hq1, rfl⟩ := List.mem_map.mp hr
      exact hq q hq1
/-- the three parts of a row go to their slots -/
theorem row_unp {H H' : Hp} {K : PySem.W.Frag} {n : Nat} {S : Addr → Prop} {r : Ro} {x : V} {i j k : Nat} (h : RowAt H H' n S r x) :
    ∃ fv, Rep H n S (flD r.2.2) fv ∧ ∀ {vs : List Nat} {σ : L2.St} (H2 : Hp), Ex H' H2 → (∀ y1 y2 y3, wipe ((((wipe σ vs).set i y1).set j y2).set k y3) vs = wipe σ vs) → Unp (gTup K 3 (gCons (gName i) (gCons (gName j) (gCons (gName k) gNil)))) vs σ ((((wipe σ vs).set i (some (.str r.1))).set j (some (oV r.2.1))).set k (some fv)) x H2 := by
  obtain ⟨a, fv, rfl, ha, hr⟩ := h
  exact ⟨fv, hr, fun H2 e2 hw => ⟨hw _ _ _, fun Kont q => ⟨a, _, rfl, Evl.st_of (e2 _ _ ha), rfl, _, _, rfl, _, _, rfl, _, _, rfl, rfl, q⟩⟩⟩
section
variable {P : Program} {w : World} {K : PySem.W.Frag} {mg : Str → Option Value} {base : Heap} {C_Shape C_InvalidData C_InvalidShape C_StayError : Addr}
def preWrong : List V → Hp → Prop := fun vs H => ∃ (a : Addr) (fl : List Str) (v : V) (n : Nat) (S : Addr → Prop) (d : D) (s : Sh), vs = [.ref a, v] ∧ H a = some (.lst (fl.map V.str)) ∧ fl.length ≤ 2 ∧ (∀ x ∈ fl, isW x) ∧ fl.Nodup ∧ Rep H n S d v ∧ shD d s ∧ okSh s
theorem ok_wrong_part (T : Txt K mg C_Shape C_InvalidData C_InvalidShape C_StayError) (R : Prg K mg C_Shape C_InvalidData C_InvalidShape C_StayError) : ∃ f fd, Fn P w K mg base "wrong_part" 5 ["flags", "lists"] (spV .non preWrong) f fd := by
  obtain ⟨_, _, G_are_words⟩ := ok_are_wordsL (P := P) (w := w) (base := base) T R
  obtain ⟨_, _, G_are_lists⟩ := ok_are_lists (P := P) (w := w) (base := base) T R
  obtain ⟨_, _, G_are_fields⟩ := ok_are_fields (P := P) (w := w) (base := base) T R
  obtain ⟨_, _, G_list_rows⟩ := ok_list_rows (P := P) (w := w) (base := base) T R
  obtain ⟨f, fd, at_, F, kp⟩ := R.wrong_part
  refine ⟨f, fd, F.ok sc_wrong_part (fun vs H Q E h => ?_) (fun cdv A outer s H vs Q E hr h => ?_), at_, kp, F.binds (fun _ _ _ _ _ _ us hl => match us, hl with | [_, _], _ => rfl)⟩
  · obtain ⟨⟨a, fl, v, n, S, d, s, rfl, _⟩, _⟩ := h; rfl
  · obtain ⟨⟨a, fl, v, n, S, d, z, rfl, ha, f2, fw, fn, hv, hd, hz⟩, k⟩ := h
    obtain ⟨r4, rok⟩ := okSh_rows hz
    refine ⟨_, (pss_cons (ps_if (PW.pt (pw_or (pt_not (pt_val (pe_callB (r := rIsiT K) call_isiT (by rfl) T.isinstance (by decide +kernel) (pa_cons (pv 0) (pa_cons (pe_tup (pa_cons (pe_bltn (v := .ty "list") (by rfl) T.list boot_list rfl) (pa_cons (pe_bltn (v := .ty "tuple") (by rfl) T.tuple boot_tuple rfl) pa_nil))) pa_nil))))) (pw_or1 (pt_not (pt_val (pcl G_are_words hr (pa_cons (pv 0) (pa_cons pe_int (pa_cons pe_int pa_nil))))))))) pss_never pss_nil)
  (pss_cons (ps_if (pt_not (pt_val (pcl G_are_lists hr (pa_cons (pv 1) pa_nil)))) pss_never pss_nil)
  (pss_cons (ps_set (i := 2) sc_wrong_part.nd rfl (Or.inl rfl) (pcl G_list_rows hr (pa_cons (pv 1) pa_nil)))
  (pss_cons (ps_if (pt_not (pt_val (pe_callB (r := rAll K) (cr_all rfl) (by rfl) T.all (by decide +kernel) (pa_cons (pe_lc (own := [("name", 3), ("parent", 4), ("fields", 5)]) rfl sc_wrong_part.nd (show PI _ _ _ (iList K _) from pi_list (pv 2)) (blkOk_by (own := [("name", 3), ("parent", 4), ("fields", 5)]) (N := ["flags", "lists", "rows", "name", "parent", "fields"]) (sc := defScope s_wrong_part) (by decide +kernel)) (fun _ _ _ _ _ => (show PG _ _ (gTup K 3 _) from pg_tup (n := 3) rfl (pgs_cons (pg_name (i := 3) sc_wrong_part.nd rfl (Or.inl rfl)) (pgs_cons (pg_name (i := 4) sc_wrong_part.nd rfl (Or.inl rfl)) (pgs_cons (pg_name (i := 5) sc_wrong_part.nd rfl (Or.inl rfl)) pgs_nil))))) (fun _ _ _ _ _ => pts_nil) (fun _ _ _ _ _ => (pcl G_are_fields hr (pa_cons (pv 5) pa_nil)))) pa_nil)))) pss_never pss_nil)
  (pss_cons (ps_if (pt_cmpR op_lt (pe_callB call_lenTxs (by rfl) T.len (by decide +kernel) (pa_cons (pe_scT (own := [("name", 3), ("parent", 4), ("fields", 5)]) rfl sc_wrong_part.nd (show PI _ _ _ (iList K _) from pi_list (pv 2)) (blkOk_by (own := [("name", 3), ("parent", 4), ("fields", 5)]) (N := ["flags", "lists", "rows", "name", "parent", "fields"]) (sc := defScope s_wrong_part) (by decide +kernel)) (fun _ _ _ _ _ => (show PG _ _ (gTup K 3 _) from pg_tup (n := 3) rfl (pgs_cons (pg_name (i := 3) sc_wrong_part.nd rfl (Or.inl rfl)) (pgs_cons (pg_name (i := 4) sc_wrong_part.nd rfl (Or.inl rfl)) (pgs_cons (pg_name (i := 5) sc_wrong_part.nd rfl (Or.inl rfl)) pgs_nil))))) (fun _ _ _ _ _ => pts_nil) (fun _ _ _ _ _ => (pv 3))) pa_nil)) (pe_callB (r := rLenA K) call_len (by rfl) T.len (by decide +kernel) (pa_cons (pv 2) pa_nil)) (nomark _)) pss_never pss_nil)
  (pss_one (ps_ret pe_non))))))), ?_⟩
    refine Evl.q_when (b := false) (Evl.et_or (a := false) (b := false) (Evl.et_not (a := true) (Evl.et_B (ev_isi2 (Evl.ev_var rfl) (fun H1 e1 => .base (.lst (e1 _ _ ha))) (kitAny_cons (b := true) (kit_ty (by decide +kernel)) (fun h => nomatch h) fun _ => rfl)))) fun _ => Evl.et_not (a := true) (Evl.et_B (spV_ev (Evl.ea_cons (Evl.ev_var rfl) (Evl.ea_cons Evl.ev_c (Evl.ea_cons Evl.ev_c Evl.ea_nil))) fun H1 e1 => ⟨a, fl, 0, 2, rfl, Evl.sq_of (e1 _ _ ha), by omega, by omega, by omega, fw, fn⟩))) (fun h => nomatch h) fun _ H1 e1 => ?_
    refine Evl.q_when (b := false) (Evl.et_not (a := true) (Evl.et_B (spV_ev (Evl.ea_cons (Evl.ev_var rfl) Evl.ea_nil) fun H2 e2 => ⟨v, n, S, d, z, rfl, rep_ex (e1.trans e2) hv, hd, hz⟩))) (fun h => nomatch h) fun _ H2 e2 => ?_
    refine ⟨_, rfl, v, n, S, d, z, rfl, rep_ex (e1.trans e2) hv, hd, hz, fun H3 p xs e3 np hp hrows => ?_⟩
    have lx := pair_len hrows
    have row : ∀ (i : Nat) (x : V), xs[i]? = some x → ∃ r, (rowsS z)[i]? = some r ∧ RowAt H2 H3 n S r x := fun i x hx => pair_back hrows hx
    refine Evl.q_when (b := false) (Evl.et_not (a := true) (Evl.et_B (ev_allT (n := xs.length) (el_lcG (Evl.ev_var rfl) (Evl.sq_of hp) (by omega) fun i x hx H4 e4 => ?_)))) (fun h => nomatch h) fun _ H4 e4 => ?_
    · obtain ⟨r, hr1, hr2⟩ := row i x hx
      obtain ⟨fv, hf, hu⟩ := row_unp (K := K) hr2 (i := 3) (j := 4) (k := 5)
      exact ⟨_, hu H4 e4 (by intro _ _ _; rfl), fun H5 e5 => spV_ev (Evl.ea_cons (Evl.ev_var rfl) Evl.ea_nil) fun H6 e6 => ⟨fv, n, S, r.2.2, rfl, rep_ex (e3.trans (e5.trans e6)) hf, (rok r (List.mem_of_getElem? hr1)).2⟩⟩
    · refine Evl.q_when (b := false) (Evl.et_test (Evl.ev_is (Evl.ev_op (ex_scG (nms := (rowsS z).map (·.1)) (Evl.ev_var rfl) (Evl.sq_of (e4 _ _ hp)) (by rw [List.length_map]; exact lx) (by omega) fun i x hx => ?_) (ev_lenL (Evl.ev_var rfl) (.inl (Evl.sq_of (e4 _ _ hp)))) Evl.rv_I0) ?_)) (fun h => nomatch h) fun _ H5 e5 => Evl.s_ret Evl.ev_c fun H6 e6 => k H6 (e1.trans (e2.trans (e3.trans (e4.trans (e5.trans e6)))))
      · obtain ⟨r, hr1, hr2⟩ := row i x hx
        refine ⟨r.1, by rw [List.getElem?_map, hr1]; rfl, fun H5 e5 => ?_⟩
        obtain ⟨fv, hf, hu⟩ := row_unp (K := K) hr2 (i := 3) (j := 4) (k := 5)
        exact ⟨_, hu H5 (e4.trans e5) (by intro _ _ _; rfl), fun H6 e6 => Evl.ev_var rfl⟩
      · rw [met_nodup _ [] hz.2.1, List.nil_append, List.length_map, lx]
        simp
end
end Pk

namespace Pk
open PySem PySem.Spec PyProof.Rows L2 Ssb
open Evl (Ex Ev EvT EvL EvA EvU)
/-! ### a Shape as it stands -/
def oD : Option Str → D
  | none => .non
  | some x => .str x
def tabD (s : Sh) : D := .dic ((rowsS s).map fun r => (r.1, .tup [oD r.2.1, flD r.2.2]))
def shF (ft tb : Addr) : List (Str × V) := putF "table" (.ref tb) (putF "flags" (.ref ft) [])
theorem ne_tf : ¬ (("table" : Str) = "flags") := by decide +kernel
theorem ne_ft : ¬ (("flags" : Str) = "table") := by decide +kernel
theorem shF_flags (ft tb : Addr) : (shF ft tb).lookup ("flags" : Str) = some (.ref ft) := by
  unfold shF; rw [lookup_putF, if_neg ne_ft, lookup_putF, if_pos rfl]
theorem shF_table (ft tb : Addr) : (shF ft tb).lookup ("table" : Str) = some (.ref tb) := by
  unfold shF; rw [lookup_putF, if_pos rfl]
theorem shF_no (ft tb : Addr) {m : Str} (h1 : ¬ m = "flags") (h2 : ¬ m = "table") : (shF ft tb).lookup m = none := by
  unfold shF; rw [lookup_putF, if_neg h2, lookup_putF, if_neg h1]; rfl
/-- at p: the Shape with these flags (ascending) and these lists -/
def ShapeAt (C : Addr) (H : Hp) (p : Addr) (fl : List Str) (s : Sh) (S : Addr → Prop) : Prop := ∃ dx ft tb, H p = some (.ins C dx (shF ft tb)) ∧ H ft = some (.tup (fl.map V.str)) ∧ Rep H 5 S (tabD s) (.ref tb)
theorem ShapeAt.ex {C : Addr} {H H' : Hp} {p : Addr} {fl : List Str} {s : Sh} {S : Addr → Prop} (e : Ex H H') (h : ShapeAt C H p fl s S) : ShapeAt C H' p fl s S := by
  obtain ⟨dx, ft, tb, h1, h2, h3⟩ := h; exact ⟨dx, ft, tb, e _ _ h1, e _ _ h2, rep_ex e h3⟩
/-- fields in a new dict with the same entries -/
theorem fl_new {H : Hp} {n : Nat} {S : Addr → Prop} {f : Fl} {v : V} (h : Rep H n S (flD f) v) : ∃ a es, v = .ref a ∧ H a = some (.dK es) ∧ f.length ≤ 100000 ∧
    ∀ {H' : Hp} {S' : Addr → Prop} {b : Addr}, (∀ a xs, H a = some (.tup xs) → H' a = some (.tup xs)) → S' b → H' b = some (.dK es) → Rep H' 3 S' (flD f) (.ref b) := by
  cases n with
  | zero => exact h.elim
  | succ n =>
  obtain ⟨a, es, e, _, ha, hl, pr⟩ := h
  refine ⟨a, es, e, ha, by simpa using hl, fun {H' S' b} k sb hb => ⟨b, es, rfl, sb, hb, hl, ?_⟩⟩
  have key : ∀ (f : Fl) (es : List (Key × V)), Paired (fun (q : Str × D) (e : Key × V) => e.1 = Sum.inr q.1 ∧ Rep H n (fun b => S b ∧ b ≠ a) q.2 e.2) (f.map fun p => (p.1, D.tup (p.2.map .str))) es →
      Paired (fun (q : Str × D) (e : Key × V) => e.1 = Sum.inr q.1 ∧ Rep H' 2 (fun c => S' c ∧ c ≠ b) q.2 e.2) (f.map fun p => (p.1, D.tup (p.2.map .str))) es := by
    intro f
    induction f with
    | nil => intro es pr; cases pr; exact .nil
    | cons p f ih =>
      intro es pr
      cases pr with
      | cons h t =>
        refine .cons ⟨h.1, ?_⟩ (ih _ t)
        have h2 := h.2
        cases n with
        | zero => exact h2.elim
        | succ n =>
        obtain ⟨c, xs, e1, hc, hl1, p1⟩ := h2
        have ex := rep_strs p1
        subst ex
        refine ⟨c, _, e1, k c _ hc, hl1, ?_⟩
        have allS : ∀ ws : List Str, Paired (fun d x => Rep H' 1 (fun c => S' c ∧ c ≠ b) d x) (ws.map D.str) (ws.map V.str) := by
          intro ws
          induction ws with
          | nil => exact .nil
          | cons y ws ih => exact .cons rfl ih
        exact allS p.2
  exact key f es pr
theorem row_fresh {l : List Ro} {i : Nat} {r : Ro} {d0 : D} (hn : (l.map (·.1)).Nodup) (hr : l[i]? = some r) (hl : List.lookup r.1 ((l.map fun r => (r.1, D.tup [oD r.2.1, flD r.2.2])).take i) = some d0) : False := by
  have mem : ∀ {m : List (Str × D)} {k : Str} {d : D}, m.lookup k = some d → k ∈ m.map (·.1) := by
    intro m
    induction m with
    | nil => intro k d h; cases h
    | cons q m ih =>
      intro k d h
      obtain ⟨j, e⟩ := q
      rw [lk_cons] at h
      by_cases c : k = j
      · rw [c]; exact List.mem_cons_self
      · rw [if_neg c] at h
        exact List.mem_cons_of_mem _ (ih h)
  have h1 := mem hl
  rw [← List.map_take, List.map_map] at h1
  obtain ⟨r2, hr2, e2⟩ := List.mem_map.mp h1
  obtain ⟨j, hj, ej⟩ := List.mem_iff_getElem.mp hr2
  rw [List.length_take] at hj
  have hj2 : l[j]? = some r2 := by
    rw [← ej, List.getElem_take, List.getElem?_eq_getElem (by omega)]
  have a1 : (l.map (·.1))[j]? = some r.1 := by
    rw [List.getElem?_map, hj2]; exact congrArg some e2
  have a2 : (l.map (·.1))[i]? = some r.1 := by
    rw [List.getElem?_map, hr]; rfl
  have := nodup_ix hn a1 a2
  omega
section
variable {P : Program} {w : World} {K : PySem.W.Frag} {mg : Str → Option Value} {base : Heap} {C_Shape C_InvalidData C_InvalidShape C_StayError : Addr}
/-- Shape(flags, lists), flags a list -/
def spInit (C : Addr) : Sp := fun vs H Q _ => ∃ (p dx a : Addr) (fl : List Str) (v : V) (n : Nat) (S : Addr → Prop) (d : D) (s : Sh), vs = [.ref p, .ref a, v] ∧ H p = some (.ins C dx []) ∧ H a = some (.lst (fl.map V.str)) ∧ fl.length ≤ 2 ∧ (∀ x ∈ fl, isW x) ∧ fl.Nodup ∧ Rep H n S d v ∧ shD d s ∧ okSh s ∧ ¬ S p ∧
  ∀ H' fl', (∀ b o, b ≠ p → H b = some o → H' b = some o) → fl'.Perm fl → sortedS fl' = true → ShapeAt C H' p fl' s (fun b => H b = none) → Q .non H'
theorem ok_Shape_init (T : Txt K mg C_Shape C_InvalidData C_InvalidShape C_StayError) (R : Prg K mg C_Shape C_InvalidData C_InvalidShape C_StayError) : ∃ f fd, Mt P w K mg base C_Shape "__init__" 6 ["self", "flags", "lists"] (spInit C_Shape) f fd := by
  obtain ⟨_, _, G_wrong_part⟩ := ok_wrong_part (P := P) (w := w) (base := base) T R
  obtain ⟨_, _, G_list_rows⟩ := ok_list_rows (P := P) (w := w) (base := base) T R
  obtain ⟨f, fd, F, fi, isf, kp⟩ := R.Shape_init
  refine ⟨f, fd, F.ok sc_Shape_init (fun vs H Q E h => ?_) (fun cdv A outer s H vs Q E hr h => ?_), ⟨fi, isf, kp⟩, F.binds (fun _ _ _ _ _ _ us hl => match us, hl with | [_, _, _], _ => rfl)⟩
  · obtain ⟨p, dx, a, fl, v, n, S, d, s, rfl, _⟩ := h; rfl
  · obtain ⟨p, dx, a, fl, v, n, S, d, z, rfl, hp, ha, f2, fw, fn, hv, hd, hz, nSp, k⟩ := h
    obtain ⟨r4, rok⟩ := okSh_rows hz
    refine ⟨_, (pss_cons (ps_set (i := 3) sc_Shape_init.nd rfl (Or.inl rfl) (pcl G_wrong_part hr (pa_cons (pv 1) (pa_cons (pv 2) pa_nil))))
  (pss_cons (ps_if (pt_cmpR op_notN (pv 3) pe_non (nomark _)) pss_never pss_nil)
  (pss_cons (ps_fld (pv 0) (pe_callTy (r := rTupA K) call_tuple_of (by rfl) T.tuple (by decide +kernel) (pa_cons (pe_callB (r := rSortedS K) cr_sortedS (by rfl) T.sorted (by decide +kernel) (pa_cons (pe_callTy (r := rListA K) call_list_of (by rfl) T.list (by decide +kernel) (pa_cons (pv 1) pa_nil)) pa_nil)) pa_nil)) rfl)
  (pss_one (ps_fld (pv 0) (pe_dc (own := [("name", 4), ("parent", 5), ("fields", 6)]) rfl sc_Shape_init.nd (show PI _ _ _ (iList K _) from pi_list (pcl G_list_rows hr (pa_cons (pv 2) pa_nil))) (blkOk_by (own := [("name", 4), ("parent", 5), ("fields", 6)]) (N := ["self", "flags", "lists", "part", "name", "parent", "fields"]) (sc := defScope s_Shape_init) (by decide +kernel)) (fun _ _ _ _ _ => (show PG _ _ (gTup K 3 _) from pg_tup (n := 3) rfl (pgs_cons (pg_name (i := 4) sc_Shape_init.nd rfl (Or.inl rfl)) (pgs_cons (pg_name (i := 5) sc_Shape_init.nd rfl (Or.inl rfl)) (pgs_cons (pg_name (i := 6) sc_Shape_init.nd rfl (Or.inl rfl)) pgs_nil))))) (fun _ _ _ _ _ => pts_nil) (fun _ _ _ _ _ => (pv 4)) (fun _ _ _ _ _ => (pe_tup (pa_cons (pv 5) (pa_cons (pe_callTy call_dictD (by rfl) T.dict (by decide +kernel) (pa_cons (pv 6) pa_nil)) pa_nil))))) rfl))))), ?_⟩
    -- part = wrong_part(flags, lists)
    refine ⟨_, rfl, _, rfl, ⟨a, fl, v, n, S, d, z, rfl, ha, f2, fw, fn, hv, hd, hz⟩, fun H1 e1 => ?_⟩
    refine Evl.q_when (b := false) (Evl.et_is (Evl.et_test (Evl.ev_op (Evl.ev_var rfl) Evl.ev_c rv_notN)) rfl) (fun h => nomatch h) fun _ H2 e2 => ?_
    have e12 := e1.trans e2
    -- self.flags = tuple(sorted(list(flags)))
    refine ⟨_, rfl, a, fl.map V.str, rfl, .inl (Evl.sq_of (e12 _ _ ha)), fun q hq => ?_⟩
    refine ⟨q, fl, rfl, Evl.sq_of upd_same, by omega, fun ys q2 perm so hq2 => ?_⟩
    refine ⟨q2, ys.map V.str, rfl, .inl ⟨Evl.sq_of upd_same, fun ft hft => ?_⟩⟩
    have e3 : Ex H2 (upd (upd (upd H2 q (.lst (fl.map V.str))) q2 (.lst (ys.map V.str))) ft (.tup (ys.map V.str))) := (Ex.new hq).trans ((Ex.new hq2).trans (Ex.new hft))
    have e03 := e12.trans e3
    have hft0 : (upd (upd (upd H2 q (.lst (fl.map V.str))) q2 (.lst (ys.map V.str))) ft (.tup (ys.map V.str))) ft = some (.tup (ys.map V.str)) := upd_same
    generalize (upd (upd (upd H2 q (.lst (fl.map V.str))) q2 (.lst (ys.map V.str))) ft (.tup (ys.map V.str))) = H3 at e3 e03 hft0 ⊢
    refine ⟨_, rfl, p, C_Shape, dx, [], rfl, e03 _ _ hp, T.cl_Shape, T.no_Shape_flags, (by show 0 < 1000; decide), ?_⟩
    have npft : ft ≠ p := fun e => by
      have := e03 _ _ hp
      rw [← e, hft0] at this; cases this
    -- the heap with the flags
    have e4 : ∀ b o, b ≠ p → H b = some o → (upd H3 p (.ins C_Shape dx (putF "flags" (.ref ft) []))) b = some o := fun b o nb hb => by rw [upd_ne nb]; exact e03 _ _ hb
    have hv4 : Rep (upd H3 p (.ins C_Shape dx (putF "flags" (.ref ft) []))) n S d v := rep_to (fun b o hb hs => e4 b o (fun e => by
      rcases hs with hs | ⟨xs, rfl⟩
      · rw [e] at hs; exact nSp hs
      · rw [e, hp] at hb; cases hb) hb) hv
    have hp4 : (upd H3 p (.ins C_Shape dx (putF "flags" (.ref ft) []))) p = some (.ins C_Shape dx (putF "flags" (.ref ft) [])) := upd_same
    have hft4 : (upd H3 p (.ins C_Shape dx (putF "flags" (.ref ft) []))) ft = some (.tup (ys.map V.str)) := by rw [upd_ne npft]; exact hft0
    have old4 : ∀ b, (upd H3 p (.ins C_Shape dx (putF "flags" (.ref ft) []))) b = none → H b = none := fun b hb => by
      cases e : H b with
      | none => rfl
      | some o =>
        have nb : b ≠ p := fun z => by rw [z, upd_same] at hb; cases hb
        rw [e4 b o nb e] at hb; cases hb
    generalize (upd H3 p (.ins C_Shape dx (putF "flags" (.ref ft) []))) = H4 at e4 hv4 hp4 hft4 old4 ⊢
    -- self.table = {..}
    refine ⟨_, rfl, v, n, S, d, z, rfl, hv4, hd, hz, fun H5 rp xs e5 nrp hrp hrows => ?_⟩
    have lx := pair_len hrows
    refine ⟨rp, rfl, ⟨xs, Evl.sq_of hrp⟩, fun Dl hD => ?_⟩
    refine ⟨fun i m H' => m = xs.length - i ∧ i ≤ xs.length ∧ Ex H5 H' ∧ ∃ es, H' Dl = some (.dK es) ∧ Paired (fun (q : Str × D) (e : Key × V) => e.1 = Sum.inr q.1 ∧ Rep H' 4 (fun b => H5 b = none ∧ b ≠ Dl) q.2 e.2) ((((rowsS z).map fun r => (r.1, D.tup [oD r.2.1, flD r.2.2]))).take i) es, ⟨xs.length, by simp, Nat.zero_le _, Ex.new hD, [], upd_same, .nil⟩, ?_⟩
    rintro i m H' ⟨rfl, hi, e6, es, hes, pes⟩
    have sq : SqL K H' rp xs := Evl.sq_of (e6 _ _ hrp)
    by_cases hlt : i < xs.length
    · refine .inr ⟨⟨xs, xs[i], sq, by simp [hlt]⟩, fun H' => Ex H5 H' ∧ ∃ es, H' Dl = some (.dK es) ∧ Paired (fun (q : Str × D) (e : Key × V) => e.1 = Sum.inr q.1 ∧ Rep H' 4 (fun b => H5 b = none ∧ b ≠ Dl) q.2 e.2) ((((rowsS z).map fun r => (r.1, D.tup [oD r.2.1, flD r.2.2]))).take (i + 1)) es, fun H' p' => ⟨xs.length - (i + 1), by omega, rfl, hlt, p'⟩, fun x H'' y => ?_⟩
      obtain ⟨rfl, y⟩ := y
      obtain ⟨r, hr1, ra, fv, rfl, hra, hfv⟩ := pair_back hrows (y xs sq)
      obtain ⟨fa, fes, rfl, hfa, fl5, mk⟩ := fl_new (rep_ex (e5.trans e6) hfv)
      refine ⟨ra, _, rfl, Evl.st_of (e6 _ _ hra), rfl, _, _, rfl, _, _, rfl, _, _, rfl, rfl, rfl, ?_⟩
      refine yes_go ?_
      refine ⟨_, rfl, _, rfl, _, rfl, fa, fes, rfl, .inl hfa, fun fb hfb => ⟨(by show 2 ≤ sizeLine; decide), fun tp htp => ?_⟩⟩
      have e7 : Ex H'' (upd (upd H'' fb (.dK fes)) tp (.tup [oV r.2.1, .ref fb])) := (Ex.new hfb).trans (Ex.new htp)
      have nfD : fb ≠ Dl := fun e => by rw [e, hes] at hfb; cases hfb
      have nft : fb ≠ tp := fun e => by rw [← e, upd_same] at htp; cases htp
      have nDt : Dl ≠ tp := fun e => by rw [← e, upd_ne (Ne.symm nfD), hes] at htp; cases htp
      have ntab : valV es (Sum.inr r.1 : Key) = none := by
        refine pair_no (F := fun d v => Rep H'' 4 (fun b => H5 b = none ∧ b ≠ Dl) d v) pes ?_
        cases hl : List.lookup r.1 ((((rowsS z).map fun r => (r.1, D.tup [oD r.2.1, flD r.2.2]))).take i) with
        | none => rfl
        | some d0 => exact (row_fresh hz.2.1 hr1 hl).elim
      have hes2 : (upd (upd H'' fb (.dK fes)) tp (.tup [oV r.2.1, .ref fb])) Dl = some (.dK es) := by rw [upd_ne nDt, upd_ne (Ne.symm nfD)]; exact hes
      have les : es.length ≤ 4 := by
        rw [← pair_len pes, List.length_take, List.length_map]; omega
      refine ⟨es, Sum.inr r.1, rfl, hes2, Evl.sz_lt (by omega), Ex.mut (e6.trans e7) hD, es ++ [(Sum.inr r.1, .ref tp)], by rw [upd_same, putK_new _ ntab], ?_⟩
      have ej : ((((rowsS z).map fun r => (r.1, D.tup [oD r.2.1, flD r.2.2]))).take (i + 1)) = ((((rowsS z).map fun r => (r.1, D.tup [oD r.2.1, flD r.2.2]))).take i) ++ [(r.1, D.tup [oD r.2.1, flD r.2.2])] := by
        rw [List.take_add_one, List.getElem?_map, hr1]; rfl
      rw [ej]
      have keep : ∀ b o, (upd (upd H'' fb (.dK fes)) tp (.tup [oV r.2.1, .ref fb])) b = some o → ((H5 b = none ∧ b ≠ Dl) ∨ ∃ xs, o = .tup xs) → (upd (upd (upd H'' fb (.dK fes)) tp (.tup [oV r.2.1, .ref fb])) Dl (.dK (putK es (Sum.inr r.1) (.ref tp)))) b = some o := fun b o hb hs => by
        have nb : b ≠ Dl := by
          rcases hs with hs | ⟨xs, rfl⟩
          · exact hs.2
          · intro e; rw [e, hes2] at hb; cases hb
        rw [upd_ne nb]; exact hb
      refine pair_snoc (pair_imp pes fun a b h => ⟨h.1, rep_to keep (rep_ex e7 h.2)⟩) ⟨rfl, rep_to keep ?_⟩
      refine ⟨tp, [oV r.2.1, .ref fb], rfl, upd_same, (by show 2 ≤ 100000; decide), .cons ?_ (.cons (mk (b := fb) (fun a xs ha => e7 _ _ ha) ⟨?_, nfD⟩ ?_) .nil)⟩
      · cases r.2.1 with
        | none => rfl
        | some x => rfl
      · cases e : H5 fb with
        | none => rfl
        | some o => rw [e6 _ _ e] at hfb; cases hfb
      · rw [upd_ne nft, upd_same]
    · have ei : i = xs.length := by omega
      subst ei
      refine .inl ⟨⟨xs, sq, Nat.le_refl _⟩, _, rfl, p, C_Shape, dx, _, rfl, e6 _ _ (e5 _ _ hp4), T.cl_Shape, T.no_Shape_table, (by show 1 < 1000; decide), ?_⟩
      have np5 : H5 p ≠ none := by rw [e5 _ _ hp4]; exact fun h => nomatch h
      have neDp : Dl ≠ p := fun e => by rw [e, e5 _ _ hp4] at hD; cases hD
      have keep : ∀ b o, H' b = some o → (b ≠ p) → (upd H' p (.ins C_Shape dx (putF "table" (.ref Dl) (putF "flags" (.ref ft) [])))) b = some o := fun b o hb nb => by rw [upd_ne nb]; exact hb
      refine k _ ys (fun b o nb hb => keep b o (e6 _ _ (e5 _ _ (e4 b o nb hb))) nb) perm so ⟨dx, ft, Dl, upd_same, keep _ _ (e6 _ _ (e5 _ _ hft4)) npft, ?_⟩
      refine rep_S (S := fun b => H5 b = none) (fun b hb => old4 b (Evl.fresh_back e5 hb)) ?_
      refine rep_to (H := H') (fun b o hb hs => keep b o hb fun e => ?_) ⟨Dl, es, rfl, hD, hes, ?_, ?_⟩
      · rcases hs with hs | ⟨xs, rfl⟩
        · rw [e] at hs; exact np5 hs
        · have := e6 _ _ (e5 _ _ hp4)
          rw [e, this] at hb; cases hb
      · rw [List.length_map]; omega
      · have ez : ((((rowsS z).map fun r => (r.1, D.tup [oD r.2.1, flD r.2.2]))).take xs.length) = ((rowsS z).map fun r => (r.1, D.tup [oD r.2.1, flD r.2.2])) := List.take_of_length_le (by rw [List.length_map]; omega)
        rw [ez] at pes
        exact pes
end
end Pk

namespace Pk
open PySem PySem.Spec PyProof.Rows L2 Ssb
open Evl (Ex Ev EvT EvL EvA EvU)
theorem valV_at : ∀ {es : List (Key × V)} {i : Nat} {k : Key} {v : V}, (es.map (·.1)).Nodup → es[i]? = some (k, v) → valV es k = some v
  | [], i, k, v, _, h => by simp at h
  | e :: es, 0, k, v, _, h => by
    simp at h; subst h
    rw [vV_cons, if_pos rfl]
  | e :: es, i + 1, k, v, nd, h => by
    have h2 : es[i]? = some (k, v) := by simpa using h
    rw [List.map_cons, List.nodup_cons] at nd
    rw [vV_cons, if_neg, valV_at nd.2 h2]
    intro z
    refine nd.1 ?_
    rw [z]
    exact List.mem_map.mpr ⟨(k, v), List.mem_of_getElem? h2, rfl⟩
theorem oV_inj {a b : Option Str} : decide (oV a = oV b) = decide (a = b) := by
  cases a <;> cases b <;> simp [oV]
theorem oV_scal (a b : Option Str) : scal (oV a) (oV b) = true := by cases a <;> cases b <;> rfl
/-- what the table tells -/
theorem tab_get {H : Hp} {S : Addr → Prop} {s : Sh} {tb : Addr} (hn : ((rowsS s).map (·.1)).Nodup) (h : Rep H 5 S (tabD s) (.ref tb)) : ∃ es, H tb = some (.dK es) ∧ es.length = (rowsS s).length ∧ (∀ (i : Nat) (k : Key) (v : V), es[i]? = some (k, v) → ∃ r, (rowsS s)[i]? = some r ∧ k = Sum.inr r.1 ∧ valV es k = some v) ∧
    ∀ r ∈ rowsS s, ∃ tp fv, valV es (Sum.inr r.1 : Key) = some (.ref tp) ∧ H tp = some (.tup [oV r.2.1, fv]) ∧ Rep H 3 S (flD r.2.2) fv := by
  obtain ⟨_, es, e, _, hes, _, pr⟩ := h
  cases e
  have le : es.length = (rowsS s).length := by rw [← pair_len pr, List.length_map]
  have keys : es.map (·.1) = (rowsS s).map fun r => (Sum.inr r.1 : Key) := by
    refine List.ext_getElem? fun i => ?_
    rw [List.getElem?_map, List.getElem?_map]
    cases hi : es[i]? with
    | none =>
      have : (rowsS s)[i]? = none := List.getElem?_eq_none_iff.mpr (by rw [← le]; exact List.getElem?_eq_none_iff.mp hi)
      rw [this]; rfl
    | some e =>
      obtain ⟨q, hq, h1, _⟩ := pair_back pr hi
      rw [List.getElem?_map] at hq
      cases hr : (rowsS s)[i]? with
      | none => rw [hr] at hq; cases hq
      | some r =>
        rw [hr] at hq; cases hq
        exact congrArg some h1
  have nd : (es.map (·.1)).Nodup := by
    rw [keys]
    have e2 : ((rowsS s).map fun r => (Sum.inr r.1 : Key)) = ((rowsS s).map (·.1)).map Sum.inr := by rw [List.map_map]; rfl
    rw [e2]
    exact List.Pairwise.map _ (fun a b h z => h (Sum.inr.inj z)) hn
  have at_ : ∀ (i : Nat) (r : Ro), (rowsS s)[i]? = some r → ∃ v, es[i]? = some (Sum.inr r.1, v) ∧ Rep H 4 (fun b => S b ∧ b ≠ tb) (.tup [oD r.2.1, flD r.2.2]) v := fun i r hr => by
    obtain ⟨e, he, h1, h2⟩ := pair_at pr (i := i) (a := (r.1, .tup [oD r.2.1, flD r.2.2])) (by rw [List.getElem?_map, hr]; rfl)
    obtain ⟨k, v⟩ := e
    have h1 : k = Sum.inr r.1 := h1
    exact ⟨v, by rw [he, h1], h2⟩
  refine ⟨es, hes, le, fun i k v hi => ?_, fun r hr => ?_⟩
  · obtain ⟨q, hq, h1, _⟩ := pair_back pr hi
    rw [List.getElem?_map] at hq
    cases hr : (rowsS s)[i]? with
    | none => rw [hr] at hq; cases hq
    | some r =>
      rw [hr] at hq; cases hq
      exact ⟨r, rfl, h1, valV_at nd hi⟩
  · obtain ⟨i, hi, ei⟩ := List.mem_iff_getElem.mp hr
    obtain ⟨v, hv, tp, xs, rfl, htp, _, pp⟩ := at_ i r (by rw [← ei]; exact List.getElem?_eq_getElem hi)
    have two : ∃ x1 x2, xs = [x1, x2] ∧ Rep H 3 (fun b => S b ∧ b ≠ tb) (oD r.2.1) x1 ∧ Rep H 3 (fun b => S b ∧ b ≠ tb) (flD r.2.2) x2 := by
      cases pp with
      | cons h1 t =>
        cases t with
        | cons h2 t2 =>
          cases t2
          exact ⟨_, _, rfl, h1, h2⟩
    obtain ⟨x1, x2, rfl, h1, h2⟩ := two
    have e1 : x1 = oV r.2.1 := by
      cases hc : r.2.1 with
      | none => rw [hc] at h1; exact h1
      | some x => rw [hc] at h1; exact h1
    subst e1
    exact ⟨tp, _, valV_at nd hv, htp, rep_S (fun b hb => hb.1) h2⟩
/-- the names of the lists with this parent -/
def kids (s : Sh) (par : Option Str) : List Str := ((rowsS s).filter fun r => decide (r.2.1 = par)).map (·.1)
theorem kids_len {s : Sh} (par : Option Str) : (kids s par).length ≤ (rowsS s).length := by
  unfold kids; rw [List.length_map]; exact List.length_filter_le _ _
section
variable {P : Program} {w : World} {K : PySem.W.Frag} {mg : Str → Option Value} {base : Heap} {C_Shape C_InvalidData C_InvalidShape C_StayError : Addr}
def spNeed (C : Addr) : Sp := fun vs H Q _ => ∃ (p : Addr) (fl : List Str) (s : Sh) (S : Addr → Prop) (nm : Str), vs = [.ref p, .str nm] ∧ ShapeAt C H p fl s S ∧ okSh s ∧ nm ∈ (rowsS s).map (·.1) ∧ ∀ H', Ex H H' → Q .non H'
theorem ok_Shape_need_list (T : Txt K mg C_Shape C_InvalidData C_InvalidShape C_StayError) (R : Prg K mg C_Shape C_InvalidData C_InvalidShape C_StayError) : ∃ f fd, Mt P w K mg base C_Shape "need_list" 1 ["self", "name"] (spNeed C_Shape) f fd := by
  obtain ⟨f, fd, F, fi, isf, kp⟩ := R.Shape_need_list
  refine ⟨f, fd, F.ok sc_Shape_need_list (fun vs H Q E h => ?_) (fun cdv A outer s H vs Q E hr h => ?_), ⟨fi, isf, kp⟩, F.binds (fun _ _ _ _ _ _ us hl => match us, hl with | [_, _], _ => rfl)⟩
  · obtain ⟨p, fl, s, S, nm, rfl, _⟩ := h; rfl
  · obtain ⟨p, fl, z, S, nm, rfl, ⟨dx, ft, tb, hp, hft, htb⟩, hz, hm, k⟩ := h
    obtain ⟨r, hr1, rfl⟩ := List.mem_map.mp hm
    obtain ⟨es, hes, _, _, hget⟩ := tab_get hz.2.1 htb
    obtain ⟨tp, fv, hv, _⟩ := hget r hr1
    refine ⟨_, (pss_one (ps_if (pt_cmp (pc_dnotin (hu_of hr) (pv 1) (show PE _ _ (tFld K _ _) from pe_fld (pv 0) rfl))) pss_never pss_nil)), ?_⟩
    refine ⟨_, rfl, _, rfl, p, C_Shape, dx, _, _, rfl, hp, T.cl_Shape, T.no_Shape_table, shF_table _ _, tb, _, rfl, .inl ⟨es, Sum.inr r.1, .inl hes, rfl, rfl⟩, _, rfl, ?_⟩
    rw [hv]
    refine iteF ?_
    exact k H (Ex.refl _)
def spIn (C : Addr) : Sp := fun vs H Q _ => ∃ (p : Addr) (fl : List Str) (s : Sh) (S : Addr → Prop) (par : Option Str), vs = [.ref p, oV par] ∧ ShapeAt C H p fl s S ∧ okSh s ∧
  ∀ H' q ys, Ex H H' → H q = none → H' q = some (.lst (ys.map V.str)) → ys.Perm (kids s par) → sortedS ys = true → Q (.ref q) H'
theorem ok_Shape_lists_in (T : Txt K mg C_Shape C_InvalidData C_InvalidShape C_StayError) (R : Prg K mg C_Shape C_InvalidData C_InvalidShape C_StayError) : ∃ f fd, Mt P w K mg base C_Shape "lists_in" 1 ["self", "parent"] (spIn C_Shape) f fd := by
  obtain ⟨f, fd, F, fi, isf, kp⟩ := R.Shape_lists_in
  refine ⟨f, fd, F.ok sc_Shape_lists_in (fun vs H Q E h => ?_) (fun cdv A outer s H vs Q E hr h => ?_), ⟨fi, isf, kp⟩, F.binds (fun _ _ _ _ _ _ us hl => match us, hl with | [_, _], _ => rfl)⟩
  · obtain ⟨p, fl, s, S, par, rfl, _⟩ := h; rfl
  · obtain ⟨p, fl, z, S, par, rfl, ⟨dx, ft, tb, hp, hft, htb⟩, hz, k⟩ := h
    obtain ⟨es, hes, le, hat, hget⟩ := tab_get hz.2.1 htb
    obtain ⟨r4, _⟩ := okSh_rows hz
    have ptb : p ≠ tb := fun e => by rw [e, hes] at hp; cases hp
    refine ⟨_, (pss_one (ps_ret (pe_callB (r := rSortedS K) cr_sortedS (by rfl) T.sorted (by decide +kernel) (pa_cons (pe_lock (pe_lc (own := [("name", 2)]) rfl sc_Shape_lists_in.nd (pi_keys (show PE _ _ (tFld K _ _) from pe_fld (pv 0) rfl)) (blkOk_by (own := [("name", 2)]) (N := ["self", "parent", "name"]) (sc := defScope s_Shape_lists_in) (by decide +kernel)) (fun _ _ _ _ _ => (pg_name (i := 2) sc_Shape_lists_in.nd rfl (Or.inl rfl))) (fun _ _ _ _ _ => (pts_one (pt_cmpR op_eq (pe_ix (r := rIxT K) ix_tup (pe_dget (hu_of hr) (show PE _ _ (tFld K _ _) from pe_fld (pv 0) rfl) (pv 2) (fun _ _ => rfl)) pe_int (fun _ _ => rfl)) (pv 1) (nomark _)))) (fun _ _ _ _ _ => (pv 2)))) pa_nil)))), ?_⟩
    refine ⟨tb, .dK es, hes, trivial, fun od => ⟨_, rfl, p, C_Shape, dx, _, _, rfl, by rw [upd_ne ptb]; exact hp, T.cl_Shape, T.no_Shape_table, shF_table _ _, tb, od, rfl, .inl ⟨es, upd_same, fun Dl hD => ?_⟩⟩⟩
    have nDt : Dl ≠ tb := fun e => by rw [e, upd_same] at hD; cases hD
    refine lc_it (lock_keys (d := tb) (o := od) (es := es)) (fun i H' => Ex (upd H tb (.frz od (.dK es))) H' ∧ H' Dl = some (.lst ((((rowsS z).take i).filter fun r => decide (r.2.1 = par)).map fun r => V.str r.1))) ⟨Ex.new hD, upd_same⟩ (fun i H' _ p => p.1 _ _ upd_same) (fun i x H' H2 hi pv y => ?_) fun H' pv => ?_
    · obtain ⟨rfl, hx⟩ := y
      obtain ⟨e, hl⟩ := pv
      rw [List.getElem?_map] at hx
      cases hc : es[i]? with
      | none => rw [hc] at hx; cases hx
      | some kv =>
      rw [hc] at hx
      obtain ⟨key, v⟩ := kv
      obtain ⟨r, hr1, rfl, hv⟩ := hat i key v hc
      obtain ⟨tp, fv, hv2, htp, _⟩ := hget r (List.mem_of_getElem? hr1)
      have ev : v = .ref tp := Option.some.inj (hv.symm.trans hv2)
      subst ev
      cases hx
      have tt : H2 tp = some (.tup [oV r.2.1, fv]) := e _ _ (upd_tup hes (fun xs h => nomatch h) _ _ htp)
      have pp : H2 p = some (.ins C_Shape dx (shF ft tb)) := e _ _ (by rw [upd_ne ptb]; exact hp)
      have et : (rowsS z).take (i + 1) = (rowsS z).take i ++ [r] := by rw [List.take_add_one, hr1]; rfl
      refine ⟨rfl, _, rfl, p, C_Shape, dx, _, _, rfl, pp, T.cl_Shape, T.no_Shape_table, shF_table _ _, _, rfl, tb, .ref tp, rfl, .inl ⟨es, Sum.inr r.1, .inr ⟨od, e _ _ upd_same⟩, rfl, hv.symm⟩, tp, _, 0, _, rfl, rfl, Evl.st_of tt, rfl, _, rfl, oV_scal _ _, _, rfl, ?_⟩
      rw [oV_inj]
      refine ite2 (fun hc => ?_) (fun hc => ?_)
      · have hc := of_decide_eq_true hc
        refine ⟨_, rfl, _, hl, Evl.sz_lt ?_, Ex.mut e hD, ?_⟩
        · rw [List.length_map]
          exact Nat.lt_of_le_of_lt (List.length_filter_le _ _) (by rw [List.length_take]; omega)
        · rw [upd_same, et, List.filter_append, List.map_append]
          simp [hc, kV]
      · have hc : ¬ r.2.1 = par := fun z => hc (decide_eq_true z)
        refine ⟨e, ?_⟩
        rw [hl, et, List.filter_append, List.map_append]
        simp [hc]
    · obtain ⟨e, hl⟩ := pv
      refine ⟨e _ _ upd_same, Dl, kids z par, rfl, Evl.sq_of ?_, Nat.lt_of_le_of_lt (kids_len par) (by omega), fun ys q perm so hq => ?_⟩
      · rw [upd_ne nDt, hl]
        have et : (rowsS z).take (es.map fun e => kV e.1).length = rowsS z := List.take_of_length_le (by rw [List.length_map]; omega)
        rw [et]
        unfold kids
        rw [List.map_map]; rfl
      · have e2 : Ex H (upd H' tb (.dK es)) := unlock hes e
        exact k _ q ys (e2.trans (Ex.new hq)) (Evl.fresh_back e2 hq) upd_same perm so
def spOuter (C : Addr) : Sp := fun vs H Q _ => ∃ (p : Addr) (fl : List Str) (s : Sh) (S : Addr → Prop), vs = [.ref p] ∧ ShapeAt C H p fl s S ∧ okSh s ∧
  ∀ H' q ys, Ex H H' → H q = none → H' q = some (.lst (ys.map V.str)) → ys.Perm (kids s none) → sortedS ys = true → Q (.ref q) H'
theorem ok_Shape_outer (T : Txt K mg C_Shape C_InvalidData C_InvalidShape C_StayError) (R : Prg K mg C_Shape C_InvalidData C_InvalidShape C_StayError) : ∃ f fd, Mt P w K mg base C_Shape "outer" 2 ["self"] (spOuter C_Shape) f fd := by
  obtain ⟨_, _, G_Shape_lists_in⟩ := ok_Shape_lists_in (P := P) (w := w) (base := base) T R
  obtain ⟨f, fd, F, fi, isf, kp⟩ := R.Shape_outer
  refine ⟨f, fd, F.ok sc_Shape_outer (fun vs H Q E h => ?_) (fun cdv A outer s H vs Q E hr h => ?_), ⟨fi, isf, kp⟩, F.binds (fun _ _ _ _ _ _ us hl => match us, hl with | [_], _ => rfl)⟩
  · obtain ⟨p, fl, s, S, rfl, _⟩ := h; rfl
  · obtain ⟨p, fl, z, S, rfl, hS, hz, k⟩ := h
    obtain ⟨dx, ft, tb, hp, hft, htb⟩ := id hS
    refine ⟨_, (pss_one (ps_ret (pmt (pv 0) T.cl_Shape G_Shape_lists_in hr (pa_cons pe_non pa_nil)))), ?_⟩
    exact ⟨_, rfl, p, dx, _, rfl, hp, shF_no _ _ (by decide +kernel) (by decide +kernel), p, fl, z, S, none, rfl, hS, hz, k⟩
def spInner (C : Addr) : Sp := fun vs H Q _ => ∃ (p : Addr) (fl : List Str) (s : Sh) (S : Addr → Prop) (nm : Str), vs = [.ref p, .str nm] ∧ ShapeAt C H p fl s S ∧ okSh s ∧ nm ∈ (rowsS s).map (·.1) ∧
  ∀ H' q ys, Ex H H' → H q = none → H' q = some (.lst (ys.map V.str)) → ys.Perm (kids s (some nm)) → sortedS ys = true → Q (.ref q) H'
theorem ok_Shape_inner (T : Txt K mg C_Shape C_InvalidData C_InvalidShape C_StayError) (R : Prg K mg C_Shape C_InvalidData C_InvalidShape C_StayError) : ∃ f fd, Mt P w K mg base C_Shape "inner" 2 ["self", "name"] (spInner C_Shape) f fd := by
  obtain ⟨_, _, G_Shape_lists_in⟩ := ok_Shape_lists_in (P := P) (w := w) (base := base) T R
  obtain ⟨_, _, G_Shape_need_list⟩ := ok_Shape_need_list (P := P) (w := w) (base := base) T R
  obtain ⟨f, fd, F, fi, isf, kp⟩ := R.Shape_inner
  refine ⟨f, fd, F.ok sc_Shape_inner (fun vs H Q E h => ?_) (fun cdv A outer s H vs Q E hr h => ?_), ⟨fi, isf, kp⟩, F.binds (fun _ _ _ _ _ _ us hl => match us, hl with | [_, _], _ => rfl)⟩
  · obtain ⟨p, fl, s, S, nm, rfl, _⟩ := h; rfl
  · obtain ⟨p, fl, z, S, nm, rfl, hS, hz, hm, k⟩ := h
    obtain ⟨dx, ft, tb, hp, hft, htb⟩ := id hS
    refine ⟨_, (pss_cons (ps_expr (pmt (pv 0) T.cl_Shape G_Shape_need_list hr (pa_cons (pv 1) pa_nil)))
  (pss_one (ps_ret (pmt (pv 0) T.cl_Shape G_Shape_lists_in hr (pa_cons (pv 1) pa_nil))))), ?_⟩
    refine ⟨_, rfl, p, dx, _, rfl, hp, shF_no _ _ (by decide +kernel) (by decide +kernel), _, rfl, p, fl, z, S, nm, rfl, hS, hz, hm, fun H1 e1 => ?_⟩
    exact ⟨_, rfl, p, dx, _, rfl, e1 _ _ hp, shF_no _ _ (by decide +kernel) (by decide +kernel), _, rfl, p, fl, z, S, some nm, rfl, hS.ex e1, hz, fun H' q ys e2 hq => k H' q ys (e1.trans e2) (Evl.fresh_back e1 hq)⟩
def spFields (C : Addr) : Sp := fun vs H Q _ => ∃ (p : Addr) (fl : List Str) (s : Sh) (S : Addr → Prop) (r : Ro), vs = [.ref p, .str r.1] ∧ ShapeAt C H p fl s S ∧ okSh s ∧ r ∈ rowsS s ∧
  ∀ H' q, Ex H H' → Rep H' 3 (fun b => H b = none) (flD r.2.2) (.ref q) → Q (.ref q) H'
theorem ok_Shape_fields (T : Txt K mg C_Shape C_InvalidData C_InvalidShape C_StayError) (R : Prg K mg C_Shape C_InvalidData C_InvalidShape C_StayError) : ∃ f fd, Mt P w K mg base C_Shape "fields" 2 ["self", "name"] (spFields C_Shape) f fd := by
  obtain ⟨_, _, G_Shape_need_list⟩ := ok_Shape_need_list (P := P) (w := w) (base := base) T R
  obtain ⟨f, fd, F, fi, isf, kp⟩ := R.Shape_fields
  refine ⟨f, fd, F.ok sc_Shape_fields (fun vs H Q E h => ?_) (fun cdv A outer s H vs Q E hr h => ?_), ⟨fi, isf, kp⟩, F.binds (fun _ _ _ _ _ _ us hl => match us, hl with | [_, _], _ => rfl)⟩
  · obtain ⟨p, fl, s, S, r, rfl, _⟩ := h; rfl
  · obtain ⟨p, fl, z, S, r, rfl, hS, hz, hr1, k⟩ := h
    obtain ⟨dx, ft, tb, hp, hft, htb⟩ := id hS
    obtain ⟨es, hes, le, hat, hget⟩ := tab_get hz.2.1 htb
    obtain ⟨tp, fv, hv, htp, hfv⟩ := hget r hr1
    refine ⟨_, (pss_cons (ps_expr (pmt (pv 0) T.cl_Shape G_Shape_need_list hr (pa_cons (pv 1) pa_nil)))
  (pss_one (ps_ret (pe_callTy call_dictD (by rfl) T.dict (by decide +kernel) (pa_cons (pe_ix (r := rIxT K) ix_tup (pe_dget (hu_of hr) (show PE _ _ (tFld K _ _) from pe_fld (pv 0) rfl) (pv 1) (fun _ _ => rfl)) pe_int (fun _ _ => rfl)) pa_nil))))), ?_⟩
    refine ⟨_, rfl, p, dx, _, rfl, hp, shF_no _ _ (by decide +kernel) (by decide +kernel), _, rfl, p, fl, z, S, r.1, rfl, hS, hz, List.mem_map.mpr ⟨r, hr1, rfl⟩, fun H1 e1 => ?_⟩
    obtain ⟨fa, fes, rfl, hfa, _, mk⟩ := fl_new (rep_ex e1 hfv)
    refine ⟨_, rfl, p, C_Shape, dx, _, _, rfl, e1 _ _ hp, T.cl_Shape, T.no_Shape_table, shF_table _ _, _, rfl, tb, .ref tp, rfl, .inl ⟨es, Sum.inr r.1, .inl (e1 _ _ hes), rfl, hv.symm⟩, tp, _, 1, _, rfl, rfl, Evl.st_of (e1 _ _ htp), rfl, fa, fes, rfl, .inl hfa, fun q hq => ?_⟩
    exact k _ q (e1.trans (Ex.new hq)) (mk (fun a xs h => Ex.new hq _ _ h) (Evl.fresh_back e1 hq) upd_same)
end
end Pk

namespace Pk
open PySem PySem.Spec PyProof.Rows L2 Ssb
open Evl (Ex Ev EvT EvL EvA EvU)
theorem map_range {α β : Type} {f : Nat → β} {g : α → β} : ∀ {l : List α} {n : Nat}, l.length = n → (∀ (i : Nat) (a : α), l[i]? = some a → f i = g a) → (List.range n).map f = l.map g := fun {l n} hn h => by
  refine List.ext_getElem? fun i => ?_
  rw [List.getElem?_map, List.getElem?_map]
  by_cases hi : i < n
  · have e : l[i]? = some (l[i]'(by omega)) := List.getElem?_eq_getElem (by omega)
    rw [e, List.getElem?_range hi]
    exact congrArg some (h i _ e)
  · have e : l[i]? = none := List.getElem?_eq_none_iff.mpr (by omega)
    rw [e, List.getElem?_eq_none_iff.mpr (by rw [List.length_range]; omega)]
    rfl
def txtBl (v : V) : Prop := (∃ s, v = .str s) ∨ ∃ b, v = .bl b
def ChoAt (H : Hp) (ch : Addr) (c : List (Str × List V)) : Prop := ∃ es, H ch = some (.dK es) ∧ Paired (fun (q : Str × List V) (e : Key × V) => e.1 = Sum.inr q.1 ∧ ∃ t, e.2 = .ref t ∧ H t = some (.tup q.2)) c es
theorem ChoAt.ex {H H' : Hp} {ch : Addr} {c : List (Str × List V)} (e : Ex H H') (h : ChoAt H ch c) : ChoAt H' ch c := by
  obtain ⟨es, h1, pr⟩ := h
  exact ⟨es, e _ _ h1, pair_imp pr fun a b h => ⟨h.1, h.2.choose, h.2.choose_spec.1, e _ _ h.2.choose_spec.2⟩⟩
theorem lk_mem {α : Type} : ∀ {c : List (Str × α)} {k : Str}, k ∈ c.map (·.1) → ∃ x, c.lookup k = some x ∧ (k, x) ∈ c
  | [], k, h => nomatch h
  | (j, a) :: c, k, h => by
    rw [lk_cons]
    by_cases e : k = j
    · subst e
      exact ⟨a, by rw [if_pos rfl], List.mem_cons_self⟩
    · rcases List.mem_cons.mp h with h | h
      · exact absurd h e
      · obtain ⟨x, h1, h2⟩ := lk_mem h
        exact ⟨x, by rw [if_neg e]; exact h1, List.mem_cons_of_mem _ h2⟩
theorem pair_lkV {F : List V → V → Prop} : ∀ {l : List (Str × List V)} {es : List (Key × V)}, Paired (fun (q : Str × List V) (e : Key × V) => e.1 = Sum.inr q.1 ∧ F q.2 e.2) l es → ∀ {k : Str} {d : List V}, l.lookup k = some d → ∃ v, valV es (Sum.inr k : Key) = some v ∧ F d v
  | _, _, .nil, k, d, h => by simp [List.lookup] at h
  | (j, d0) :: l, e :: es, .cons h t, k, d, hk => by
    rw [lk_cons] at hk
    rw [vV_cons]
    by_cases c : k = j
    · rw [if_pos c] at hk
      cases hk
      exact ⟨e.2, by rw [if_pos (by rw [h.1, c])], h.2⟩
    · rw [if_neg c] at hk
      obtain ⟨v, h1, h2⟩ := pair_lkV t hk
      exact ⟨v, by rw [if_neg (by rw [h.1]; intro z; exact c (Sum.inr.inj z).symm)]; exact h1, h2⟩
def okFs (f : Fl) (c : List (Str × D)) : Prop := c.length = f.length ∧ ∀ p ∈ f, ∃ x, c.lookup p.1 = some (.str x) ∧ x ∈ p.2
theorem flD_cho {H : Hp} {n : Nat} {S : Addr → Prop} {f : Fl} {q : Addr} (h : Rep H n S (flD f) (.ref q)) : ChoAt H q (f.map fun p => (p.1, p.2.map V.str)) := by
  cases n with
  | zero => exact h.elim
  | succ n =>
  obtain ⟨a, es, e, _, ha, _, pr⟩ := h
  cases e
  refine ⟨es, ha, ?_⟩
  have key : ∀ {f : Fl} {es : List (Key × V)}, Paired (fun (q' : Str × D) (e : Key × V) => e.1 = Sum.inr q'.1 ∧ Rep H n (fun b => S b ∧ b ≠ q) q'.2 e.2) (f.map fun p => (p.1, D.tup (p.2.map .str))) es →
      Paired (fun (q' : Str × List V) (e : Key × V) => e.1 = Sum.inr q'.1 ∧ ∃ t, e.2 = .ref t ∧ H t = some (.tup q'.2)) (f.map fun p => (p.1, p.2.map V.str)) es := by
    intro f
    induction f with
    | nil => intro es p; cases p; exact .nil
    | cons x f ih =>
      intro es p
      rw [List.map_cons] at p
      cases p with
      | cons h t =>
        refine .cons ⟨h.1, ?_⟩ (ih t)
        exact rep_words h.2
  exact key pr
def idE (ids : List Int) : List (Key × V) := ids.map fun i => (Sum.inl i, V.bl true)
theorem idE_no : ∀ {ids : List Int} {i : Int}, i ∉ ids → valV (idE ids) (Sum.inl i : Key) = none
  | [], _, _ => rfl
  | j :: ids, i, h => by
    show valV ((Sum.inl j, V.bl true) :: idE ids) _ = none
    rw [vV_cons, if_neg fun z => h (by rw [Sum.inl.inj z]; exact List.mem_cons_self)]
    exact idE_no fun z => h (List.mem_cons_of_mem _ z)
section
variable {P : Program} {w : World} {K : PySem.W.Frag} {mg : Str → Option Value} {base : Heap}
theorem kids_mem {s : Sh} {par : Option Str} {x : Str} (h : x ∈ kids s par) : ∃ r ∈ rowsS s, r.2.1 = par ∧ r.1 = x := by
  obtain ⟨r, hr, rfl⟩ := List.mem_map.mp h
  have := List.mem_filter.mp hr
  exact ⟨r, this.1, of_decide_eq_true this.2, rfl⟩
end
end Pk

namespace Pk
open PySem PySem.Spec PyProof.Rows L2 Ssb
open Evl (Ex Ev EvT EvL EvA EvU)
/-! ### the stream -/
def StAt (H : Hp) (S c : Addr) : Prop := S ≠ c ∧ ∃ (k : Int) (cs : List Int), H S = some (.lst [.ref c, .int k]) ∧ H c = some (.lst (cs.map V.int)) ∧ 0 < cs.length ∧ cs.length ≤ 63
/-- from H to H': the stream moved, all else stands -/
structure Mv (S c : Addr) (H H' : Hp) : Prop where
  a : StAt H S c
  z : StAt H' S c
  fr : ∀ b o, b ≠ S → b ≠ c → H b = some o → H' b = some o
theorem StAt.ex {S c : Addr} {H H' : Hp} (e : Ex H H') (h : StAt H S c) : StAt H' S c := by
  obtain ⟨n, k, cs, h1, h2, h3⟩ := h; exact ⟨n, k, cs, e _ _ h1, e _ _ h2, h3⟩
theorem Mv.ex {S c : Addr} {H H' : Hp} (a : StAt H S c) (e : Ex H H') : Mv S c H H' := ⟨a, a.ex e, fun b o _ _ h => e b o h⟩
theorem Mv.trans {S c : Addr} {H H' H2 : Hp} (m : Mv S c H H') (m2 : Mv S c H' H2) : Mv S c H H2 := ⟨m.a, m2.z, fun b o n1 n2 h => m2.fr b o n1 n2 (m.fr b o n1 n2 h)⟩
theorem Mv.tx {S c : Addr} {H H' H2 : Hp} (m : Mv S c H H') (e : Ex H' H2) : Mv S c H H2 := m.trans (.ex m.z e)
theorem StAt.someS {S c : Addr} {H : Hp} (a : StAt H S c) {b : Addr} (h : H b = none) : b ≠ S ∧ b ≠ c := by
  obtain ⟨n, k, cs, h1, h2, h3⟩ := a
  exact ⟨fun e => (by rw [e, h1] at h; cases h), fun e => (by rw [e, h2] at h; cases h)⟩
theorem Mv.back {S c : Addr} {H H' : Hp} (m : Mv S c H H') {b : Addr} (h : H' b = none) : H b = none := by
  obtain ⟨n1, n2⟩ := m.z.someS h
  cases e : H b with
  | none => rfl
  | some o => rw [m.fr b o n1 n2 e] at h; cases h
/-- an object that H does not know may change -/
theorem Mv.mut {S c : Addr} {H H' : Hp} {p : Addr} {o : HO} (m : Mv S c H H') (h : H p = none) : Mv S c H (upd H' p o) := by
  obtain ⟨n1, n2⟩ := m.a.someS h
  obtain ⟨n, k, cs, h1, h2, h3⟩ := m.z
  refine ⟨m.a, ⟨n, k, cs, by rw [upd_ne (Ne.symm n1)]; exact h1, by rw [upd_ne (Ne.symm n2)]; exact h2, h3⟩, fun b o' b1 b2 hb => ?_⟩
  have : b ≠ p := fun e => by rw [e, h] at hb; cases hb
  rw [upd_ne this]
  exact m.fr b o' b1 b2 hb
theorem Mv.new {S c : Addr} {H : Hp} {p : Addr} {o : HO} (a : StAt H S c) (h : H p = none) : Mv S c H (upd H p o) := .ex a (Ex.new h)
theorem rep_mv {S c : Addr} {H H' : Hp} (m : Mv S c H H') {n : Nat} {P : Addr → Prop} {d : D} {v : V} (n1 : ¬ P S) (n2 : ¬ P c) (h : Rep H n P d v) : Rep H' n P d v := by
  obtain ⟨_, k, cs, h1, h2, _⟩ := m.a
  refine rep_to (fun b o hb hp => m.fr b o (fun e => ?_) (fun e => ?_) hb) h
  · rw [e] at hp hb
    rcases hp with hp | ⟨xs, rfl⟩
    · exact n1 hp
    · rw [h1] at hb; cases hb
  · rw [e] at hp hb
    rcases hp with hp | ⟨xs, rfl⟩
    · exact n2 hp
    · rw [h2] at hb; cases hb
theorem Mv.tup {S c : Addr} {H H' : Hp} (m : Mv S c H H') {t : Addr} {xs : List V} (h : H t = some (.tup xs)) : H' t = some (.tup xs) := by
  obtain ⟨_, k, cs, h1, h2, _⟩ := m.a
  exact m.fr t _ (fun e => by rw [e, h1] at h; cases h) (fun e => by rw [e, h2] at h; cases h) h
theorem ev_int1 {te : TE} {σ : L2.St} {H : Hp} {i : Int} (h : Ev te σ H (.int i)) : Ev (tCB (fun xs H Q => (∃ i, xs = [V.int i] ∧ Q (.int i) H) ∨ ∃ k, xs = [V.bl k] ∧ Q (.int (if k then 1 else 0)) H) (tCons te tNil)) σ H (.int i) := fun H1 e Q q => h H1 e _ fun H2 e2 => .inl ⟨i, rfl, q H2 e2⟩
theorem at_get {α : Type} {xs : List α} {i : Int} (h0 : 0 ≤ i) (h1 : i < (xs.length : Int)) : ∃ v, xs[i.toNat]? = some v ∧ atI xs i = some v := by
  have h2 : i.toNat < xs.length := by omega
  refine ⟨xs[i.toNat], List.getElem?_eq_getElem h2, ?_⟩
  have := atI_nat (List.getElem?_eq_getElem h2)
  rw [show ((i.toNat : Nat) : Int) = i by omega] at this
  exact this
theorem shaped_ints (ns : List Int) : SeqAt.shaped (.list (ns.map PyData.int)) = true := by
  have h : PyData.canLayAll0 (ns.map PyData.int) = true ∧ PyData.depthAll (ns.map PyData.int) ≤ 1 := by
    induction ns with
    | nil => exact ⟨by simp [PyData.canLayAll0], by simp [PyData.depthAll]⟩
    | cons n ns ih => exact ⟨by simp [PyData.canLayAll0, PyData.canLay0, ih.1], by have := ih.2; simp [PyData.depthAll, PyData.depth]; omega⟩
  unfold SeqAt.shaped
  have h2 := h.2
  simp only [PyData.canLay0, PyData.depth, h.1, Bool.true_and]
  exact decide_eq_true (by omega)
theorem dp_ints {K : PySem.W.Frag} {H : Hp} {a : Addr} {ns : List Int} (h : SqL K H a (ns.map V.int)) : Dp K H (.ref a) (.list (ns.map PyData.int)) := by
  refine .lst h ?_
  clear h
  induction ns with
  | nil => exact .nil
  | cons n ns ih => exact .cons (.int n) ih
theorem el_lcN {K : PySem.W.Frag} {σ : L2.St} {H : Hp} {te tl : TE} {vs : List Nat} {j : Nat} {f : Nat → V} {xs : List V} (h : EvL tl σ H xs) (hz : xs.length ≤ 100000) (hw : ∀ x, wipe ((wipe σ vs).set j (some x)) vs = wipe σ vs)
    (he : ∀ (i : Nat) (x : V), xs[i]? = some x → ∀ H2, Ex H H2 → Ev te ((wipe σ vs).set j (some x)) H2 (f i)) : EvL (tLc (iList K tl) (gName j) tYes te vs) σ H ((List.range xs.length).map f) := fun H1 e Q q =>
  h H1 e _ fun a H2 ha e2 hx => ⟨a, rfl, ⟨xs, Evl.sq_of hx⟩, fun Dl hD =>
    el_walk (f := f) walk_list hz (fun H3 e3 => Evl.ex_l e3 (Evl.sq_of hx)) hw (fun i x h3 H3 e3 => he i x h3 H3 ((e.trans e2).trans e3)) (fun p H3 hp e3 hl => q p H3 (Evl.fresh_back e2 hp) (e2.trans e3) hl) Dl hD⟩
section
variable {P : Program} {w : World} {K : PySem.W.Frag} {mg : Str → Option Value} {base : Heap} {C_Shape C_InvalidData C_InvalidShape C_StayError : Addr}
def spStream (K : PySem.W.Frag) : Sp := fun vs H Q _ => ∃ (a : Addr) (ns : List Int), vs = [.ref a] ∧ SqL K H a (ns.map V.int) ∧ ∀ H' S c, StAt H' S c → Q (.ref S) H'
theorem ok__law_stream (T : Txt K mg C_Shape C_InvalidData C_InvalidShape C_StayError) (R : Prg K mg C_Shape C_InvalidData C_InvalidShape C_StayError) : ∃ f fd, Fn P w K mg base "_law_stream" 1 ["_law_script"] (spStream K) f fd := by
  obtain ⟨f, fd, at_, F, kp⟩ := R._law_stream
  refine ⟨f, fd, F.ok sc__law_stream (fun vs H Q E h => ?_) (fun cdv A outer s H vs Q E hr h => ?_), at_, kp, F.binds (fun _ _ _ _ _ _ us hl => match us, hl with | [_], _ => rfl)⟩
  · obtain ⟨a, ns, rfl, _⟩ := h; rfl
  · obtain ⟨a, ns, rfl, ha, k⟩ := h
    refine ⟨_, (pss_cons (ps_setLc (i := 1) (own := [("_law_cell", 2)]) rfl sc__law_stream.nd rfl rfl (sw_true rfl rfl rfl (by decide +kernel)) (show PI _ _ _ (iList K _) from pi_list (pe_slice (r := rSlL K) sl_list (pv 0) po_none (po_some pe_int))) (blkOk_by (own := [("_law_cell", 2)]) (N := ["_law_script", "_law_cells", "_law_cell"]) (sc := defScope s__law_stream) (by decide +kernel)) (fun _ _ _ _ _ => (pg_name (i := 2) sc__law_stream.nd rfl (Or.inl rfl))) (fun _ _ _ _ _ => pts_nil) (fun _ _ _ _ _ => (pe_callTy call_int1 (by rfl) T.int (by decide +kernel) (pa_cons (pv 2) pa_nil))))
  (Evl.pss_cut (ps_if (pt_cmpR (r := rEqD K) (op_eqD hr.units) (pv 1) (pe_lst pa_nil) (nomark _)) (pss_one (ps_set (i := 1) sc__law_stream.nd rfl (Or.inl rfl) (pe_lst (pa_cons pe_int pa_nil)))) pss_nil)
  (pss_one (ps_ret (pe_lst (pa_cons (pv 1) (pa_cons pe_int pa_nil))))))), ?_⟩
    obtain ⟨cs, hcs, c63⟩ : ∃ cs : List Int, cutV (ns.map V.int) none (some 63) = cs.map V.int ∧ cs.length ≤ 63 := by
      refine ⟨ns.take 63, ?_, by rw [List.length_take]; omega⟩
      unfold cutV
      rw [HT.sIx_none, show (some (63 : Int)) = some ((63 : Nat) : Int) from rfl, HT.sIx_nat, List.drop_zero, Nat.sub_zero, List.map_take]
      refine List.take_eq_take_iff.mpr ?_
      omega
    refine Evl.q_asgL (xs := cs.map V.int) ?_ fun p H1 hp e1 hp1 => ?_
    · have := el_lcN (K := K) (j := 2) (vs := [2]) (f := fun i => ((cs.map V.int)[i]?).getD .non) (te := tCB (fun xs H Q => (∃ i, xs = [V.int i] ∧ Q (.int i) H) ∨ ∃ k, xs = [V.bl k] ∧ Q (.int (if k then 1 else 0)) H) (tCons (tVar 2) tNil)) (hcs ▸ Evl.el_sl (σ := [some (.ref a), none, none]) (Evl.ev_var (i := 0) rfl) Evl.eo_none (Evl.eo_some Evl.ev_c) ha) (by rw [List.length_map]; omega) (fun _ => rfl) fun i x hx H2 e2 => ?_
      · rw [map_range (g := _root_.id) rfl (fun i a ha => by rw [ha]; rfl), List.map_id] at this
        exact this
      · rw [List.getElem?_map] at hx
        cases hy : cs[i]? with
        | none => rw [hy] at hx; cases hx
        | some y =>
        rw [hy] at hx
        cases hx
        refine Evl.ev_is (ev_int1 (i := y) (Evl.ev_var rfl)) ?_
        rw [List.getElem?_map, hy]; rfl
    · refine Evl.q_cut (M := fun σ' H' => ∃ (c : Addr) (cs : List Int) (o2 : Option V), σ' = [some (.ref a), some (.ref c), o2] ∧ H' c = some (.lst (cs.map V.int)) ∧ 0 < cs.length ∧ cs.length ≤ 63) ?_ ?_
      · refine ⟨_, rfl, (by show 0 ≤ sizeLine; decide), fun q hq => ?_⟩
        have e2 : Ex H1 (upd H1 q (.lst [])) := Ex.new hq
        refine ⟨_, _, dp_ints (ns := cs) (Evl.sq_of (e2 _ _ hp1)), dp_ints (ns := []) (Evl.sq_of upd_same), shaped_ints _, shaped_ints _, _, rfl, ?_⟩
        cases cs with
        | nil =>
          refine iteT ?_
          exact Evl.s_asgL (xs := [V.int 0]) (Evl.el_lst (Evl.ea_cons Evl.ev_c Evl.ea_nil) (by show 1 ≤ 100000; decide)) fun p2 H2 _ e3 hp2 => ⟨p2, [0], _, rfl, hp2, by decide, by decide⟩
        | cons x cs =>
          refine iteF ?_
          exact ⟨p, x :: cs, _, rfl, e2 _ _ hp1, by simp, c63⟩
      · rintro σ' H' ⟨c, cs, o2, rfl, hc, c0, c1⟩
        exact Evl.s_retL (xs := [.ref c, .int 0]) (Evl.el_lst (Evl.ea_cons (Evl.ev_var rfl) (Evl.ea_cons Evl.ev_c Evl.ea_nil)) (by show 2 ≤ 100000; decide)) fun q H2 hq e2 hq2 => k H2 q c ⟨fun e => (by rw [e, hc] at hq; cases hq), 0, cs, hq2, e2 _ _ hc, c0, c1⟩
def spDraw : Sp := fun vs H Q _ => ∃ (S c : Addr) (m : Int), vs = [.ref S, .int m] ∧ StAt H S c ∧ 1 ≤ m ∧ m < 1073741824 * 1073741824 ∧ ∀ H' r, Mv S c H H' → 0 ≤ r → r < m → Q (.int r) H'
theorem ok__law_draw (T : Txt K mg C_Shape C_InvalidData C_InvalidShape C_StayError) (R : Prg K mg C_Shape C_InvalidData C_InvalidShape C_StayError) : ∃ f fd, Fn P w K mg base "_law_draw" 1 ["_law_stream_here", "_law_many"] spDraw f fd := by
  obtain ⟨f, fd, at_, F, kp⟩ := R._law_draw
  refine ⟨f, fd, F.ok sc__law_draw (fun vs H Q E h => ?_) (fun cdv A outer s H vs Q E hr h => ?_), at_, kp, F.binds (fun _ _ _ _ _ _ us hl => match us, hl with | [_, _], _ => rfl)⟩
  · obtain ⟨S, c, m, rfl, _⟩ := h; rfl
  · obtain ⟨S, c, m, rfl, st, m1, m2, k⟩ := h
    obtain ⟨ne, k0, cs, hS, hc, c0, c63⟩ := id st
    refine ⟨_, (pss_cons (ps_set (i := 2) sc__law_draw.nd rfl (Or.inl rfl) (pe_ix (r := rIxL K) ix_list (pv 0) pe_int (fun _ _ => rfl)))
  (pss_cons (ps_set (i := 3) sc__law_draw.nd rfl (Or.inl rfl) (pe_ix (r := rIxL K) ix_list (pv 0) pe_int (fun _ _ => rfl)))
  (pss_cons (ps_asg (pe_op op_add (pv 3) pe_int) (pg_sub (pv 0) pe_int set_list))
  (pss_cons (ps_set (i := 4) sc__law_draw.nd rfl (Or.inl rfl) (pe_op op_mod (pe_callTy call_int1 (by rfl) T.int (by decide +kernel) (pa_cons (pv 3) pa_nil)) (pe_callB (r := rLenA K) call_len (by rfl) T.len (by decide +kernel) (pa_cons (pv 2) pa_nil))))
  (pss_cons (ps_set (i := 5) sc__law_draw.nd rfl (Or.inl rfl) (pe_ix (r := rIxL K) ix_list (pv 2) (pv 4) (fun _ _ => rfl)))
  (pss_cons (ps_if (pt_cmpR op_ge (pv 5) (pe_op op_pow pe_int pe_int) (nomark _)) (pss_cons (ps_asg (pe_op op_fdivW (pv 5) (pv 1)) (pg_sub (pv 2) (pv 4) set_list))
  (pss_one (ps_ret (pe_op op_mod (pe_callTy call_int1 (by rfl) T.int (by decide +kernel) (pa_cons (pv 5) pa_nil)) (pv 1))))) pss_nil)
  (pss_cons (ps_set (i := 6) sc__law_draw.nd rfl (Or.inl rfl) (pe_op op_mod (pe_op op_mul (pe_callTy call_int1 (by rfl) T.int (by decide +kernel) (pa_cons (pe_op op_add (pe_op op_add (pv 5) (pe_op op_mul pe_int (pv 3))) pe_int) pa_nil)) pe_int) pe_int))
  (pss_cons (ps_set (i := 6) sc__law_draw.nd rfl (Or.inl rfl) (pe_op op_mod (pe_callTy call_int1 (by rfl) T.int (by decide +kernel) (pa_cons (pe_op op_mul (pv 6) (pe_op op_add (pe_op op_fdiv (pv 6) pe_int) pe_int)) pa_nil)) pe_int))
  (pss_cons (ps_set (i := 6) sc__law_draw.nd rfl (Or.inl rfl) (pe_op op_mod (pe_callTy call_int1 (by rfl) T.int (by decide +kernel) (pa_cons (pe_op op_mul (pv 6) (pe_op op_add (pe_op op_fdiv (pv 6) pe_int) pe_int)) pa_nil)) pe_int))
  (pss_one (ps_ret (pe_op op_mod (pe_callTy call_int1 (by rfl) T.int (by decide +kernel) (pa_cons (pv 6) pa_nil)) (pv 1))))))))))))), ?_⟩
    refine Evl.q_asg (Evl.ev_op (Evl.ev_var rfl) Evl.ev_c (Evl.rv_ixL (Evl.sq_of hS) rfl)) fun H1 e1 => ?_
    refine Evl.q_asg (Evl.ev_op (Evl.ev_var rfl) Evl.ev_c (Evl.rv_ixL (Evl.sq_of (e1 _ _ hS)) rfl)) fun H2 e2 => ?_
    have e02 := e1.trans e2
    refine Evl.q_setL (l := S) (j := 1) (v := .int (k0 + 1)) (e02 _ _ hS) (Evl.ev_op (Evl.ev_var rfl) Evl.ev_c Evl.rv_I0) (Evl.ev_var rfl) Evl.ev_c (by show 1 < 2; decide) fun H3 e3 => ?_
    have m3 : Mv S c H (upd H3 S (.lst ([V.ref c, .int k0].set 1 (.int (k0 + 1))))) := by
      have e03 := e02.trans e3
      refine ⟨st, ⟨ne, k0 + 1, cs, upd_same, by rw [upd_ne (Ne.symm ne)]; exact e03 _ _ hc, c0, c63⟩, fun b o b1 b2 hb => ?_⟩
      rw [upd_ne b1]
      exact e03 _ _ hb
    have hc3 : (upd H3 S (.lst ([V.ref c, .int k0].set 1 (.int (k0 + 1))))) c = some (.lst (cs.map V.int)) := by rw [upd_ne (Ne.symm ne)]; exact (e02.trans e3) _ _ hc
    generalize (upd H3 S (.lst ([V.ref c, .int k0].set 1 (.int (k0 + 1))))) = H4 at m3 hc3 ⊢
    have l0 : (0 : Int) < ((cs.map V.int).length : Int) := by rw [List.length_map]; omega
    refine Evl.q_asg (Evl.ev_op (ev_int1 (Evl.ev_var rfl)) (ev_lenL (Evl.ev_var rfl) (.inl (Evl.sq_of hc3))) (Evl.rv_I l0)) fun H5 e5 => ?_
    have a0 : 0 ≤ k0 % ((cs.map V.int).length : Int) := Int.emod_nonneg _ (by omega)
    have a1 : k0 % ((cs.map V.int).length : Int) < ((cs.map V.int).length : Int) := Int.emod_lt_of_pos _ l0
    generalize k0 % ((cs.map V.int).length : Int) = at_ at a0 a1 ⊢
    obtain ⟨v, hv, hat⟩ := at_get a0 a1
    obtain ⟨x, rfl⟩ : ∃ x, v = V.int x := by
      rw [List.getElem?_map] at hv
      cases hy : cs[at_.toNat]? with
      | none => rw [hy] at hv; cases hv
      | some y => rw [hy] at hv; exact ⟨y, (Option.some.inj hv).symm⟩
    refine Evl.q_asg (Evl.ev_op (Evl.ev_var rfl) (Evl.ev_var rfl) (Evl.rv_ixL (Evl.sq_of (e5 _ _ hc3)) hat)) fun H6 e6 => ?_
    have m6 := m3.tx (e5.trans e6)
    have hc6 := (e5.trans e6) _ _ hc3
    clear hc3 m3 e5 e6 e3 e02 e2 e1
    refine Evl.q_when (Evl.et_test (Evl.ev_op (Evl.ev_var rfl) (Evl.ev_op Evl.ev_c Evl.ev_c (Evl.rv_I ⟨by decide, by decide, by decide⟩)) Evl.rv_I0)) (fun _ H7 e7 => ?_) (fun _ H7 e7 => ?_)
    · have ej : ((at_.toNat : Nat) : Int) = at_ := by omega
      refine Evl.q_setL (l := c) (j := at_.toNat) (v := .int (x / m)) (e7 _ _ hc6) (Evl.ev_op (Evl.ev_var rfl) (Evl.ev_var rfl) (Evl.rv_I ⟨by omega, ?_⟩)) (Evl.ev_var rfl) (Evl.ev_var (by rw [ej]; rfl)) (by omega) fun H8 e8 => ?_
      · have : m.natAbs < 2 ^ 60 := by omega
        have h2 : m.natAbs.log2 < 60 := (Nat.log2_lt (by omega)).mpr this
        omega
      · have m8 : Mv S c H (upd H8 c (.lst ((cs.map V.int).set at_.toNat (.int (x / m))))) := by
          have m7 := m6.tx (e7.trans e8)
          obtain ⟨_, k1, cs1, h1, h2, h3⟩ := m7.z
          refine ⟨st, ⟨ne, k1, cs.set at_.toNat (x / m), by rw [upd_ne ne]; exact h1, by rw [upd_same, List.map_set], by rw [List.length_set]; exact c0, by rw [List.length_set]; exact c63⟩, fun b o b1 b2 hb => ?_⟩
          rw [upd_ne b2]
          exact m7.fr b o b1 b2 hb
        refine Evl.s_ret (Evl.ev_op (ev_int1 (Evl.ev_var rfl)) (Evl.ev_var rfl) (Evl.rv_I (by omega))) fun H9 e9 => k H9 _ (m8.tx e9) (Int.emod_nonneg _ (by omega)) (Int.emod_lt_of_pos _ (by omega))
    · have m7 := m6.tx e7
      refine Evl.q_asg (Evl.ev_op (Evl.ev_op (ev_int1 (Evl.ev_op (Evl.ev_op (Evl.ev_var rfl) (Evl.ev_op Evl.ev_c (Evl.ev_var rfl) (Evl.rv_I (.inl ⟨by decide, by decide⟩))) Evl.rv_I0) Evl.ev_c Evl.rv_I0)) Evl.ev_c (Evl.rv_I (.inr ⟨by decide, by decide⟩))) Evl.ev_c (Evl.rv_I (by decide))) fun H8 e8 => ?_
      have b0 : 0 ≤ (x + 7919 * k0 + 1) * 48271 % 2147483647 := Int.emod_nonneg _ (by decide)
      have b1 : (x + 7919 * k0 + 1) * 48271 % 2147483647 < 2147483647 := Int.emod_lt_of_pos _ (by decide)
      generalize (x + 7919 * k0 + 1) * 48271 % 2147483647 = y at b0 b1 ⊢
      refine Evl.q_asg (Evl.ev_op (ev_int1 (Evl.ev_op (Evl.ev_var rfl) (Evl.ev_op (Evl.ev_op (Evl.ev_var rfl) Evl.ev_c (Evl.rv_I ⟨by decide, by decide⟩)) Evl.ev_c Evl.rv_I0) (Evl.rv_I (.inl ⟨by omega, by omega⟩)))) Evl.ev_c (Evl.rv_I (by decide))) fun H9 e9 => ?_
      have b0 : 0 ≤ y * (y / 1009 + 69621) % 2147483647 := Int.emod_nonneg _ (by decide)
      have b1 : y * (y / 1009 + 69621) % 2147483647 < 2147483647 := Int.emod_lt_of_pos _ (by decide)
      generalize y * (y / 1009 + 69621) % 2147483647 = z at b0 b1 ⊢
      refine Evl.q_asg (Evl.ev_op (ev_int1 (Evl.ev_op (Evl.ev_var rfl) (Evl.ev_op (Evl.ev_op (Evl.ev_var rfl) Evl.ev_c (Evl.rv_I ⟨by decide, by decide⟩)) Evl.ev_c Evl.rv_I0) (Evl.rv_I (.inl ⟨by omega, by omega⟩)))) Evl.ev_c (Evl.rv_I (by decide))) fun H10 e10 => ?_
      refine Evl.s_ret (Evl.ev_op (ev_int1 (Evl.ev_var rfl)) (Evl.ev_var rfl) (Evl.rv_I (by omega))) fun H11 e11 => k H11 _ (m7.tx (e8.trans (e9.trans (e10.trans e11)))) (Int.emod_nonneg _ (by omega)) (Int.emod_lt_of_pos _ (by omega))
end
end Pk

namespace Pk
open PySem PySem.Spec PyProof.Rows L2 Ssb
open Evl (Ex Ev EvT EvL EvA EvU)
theorem pigeon {α : Type} [DecidableEq α] : ∀ {l m : List α}, l.Nodup → (∀ x ∈ l, x ∈ m) → l.length ≤ m.length
  | [], _, _, _ => Nat.zero_le _
  | x :: l, m, nd, h => by
    rw [List.nodup_cons] at nd
    have h1 := pigeon (m := m.erase x) nd.2 fun y hy => (List.mem_erase_of_ne (fun e => nd.1 (by rw [← e]; exact hy))).mpr (h y (List.mem_cons_of_mem _ hy))
    have h2 := List.length_erase_of_mem (h x List.mem_cons_self)
    have h3 : 0 < m.length := List.length_pos_of_mem (h x List.mem_cons_self)
    rw [List.length_cons]
    omega
theorem inV_strs {w : Str} {ws : List Str} : inV (.str w) (ws.map V.str) = true ↔ w ∈ ws := by
  unfold inV
  rw [List.any_eq_true]
  constructor
  · rintro ⟨y, hy, e⟩
    obtain ⟨z, hz, rfl⟩ := List.mem_map.mp hy
    have : z = w := by simpa [eqV] using e
    rw [← this]; exact hz
  · intro h
    exact ⟨.str w, List.mem_map.mpr ⟨w, h, rfl⟩, by simp [eqV]⟩
theorem inV_ints {w : Int} {ws : List Int} : inV (.int w) (ws.map V.int) = true ↔ w ∈ ws := by
  unfold inV
  rw [List.any_eq_true]
  constructor
  · rintro ⟨y, hy, e⟩
    obtain ⟨z, hz, rfl⟩ := List.mem_map.mp hy
    have : z = w := by simpa [eqV] using e
    rw [← this]; exact hz
  · intro h
    exact ⟨.int w, List.mem_map.mpr ⟨w, h, rfl⟩, by simp [eqV]⟩
theorem flat_strs (ws : List Str) : (ws.map V.str).all flatV = true := by
  rw [List.all_eq_true]; intro y hy; obtain ⟨z, _, rfl⟩ := List.mem_map.mp hy; rfl
theorem flat_ints (ws : List Int) : (ws.map V.int).all flatV = true := by
  rw [List.all_eq_true]; intro y hy; obtain ⟨z, _, rfl⟩ := List.mem_map.mp hy; rfl
theorem given_filter {xs : List V} {g : V → Bool} : Evl.given xs.length (fun i => g ((xs[i]?).getD .non)) (fun i => (xs[i]?).getD .non) = xs.filter g := by
  unfold Evl.given
  have h : (List.range xs.length).map (fun i => (xs[i]?).getD .non) = xs := by
    rw [map_range (g := _root_.id) rfl (fun i a ha => by rw [ha]; rfl), List.map_id]
  conv => rhs; rw [← h, List.filter_map]
  rfl
def chrs (s : Str) : List V := s.cps.toList.map fun c => V.str ⟨#[c]⟩
section
variable {K : PySem.W.Frag} {σ : L2.St} {H : Hp} {te tl ta : TE} {t : TT} {vs : List Nat} {j : Nat}
theorem el_lcSF {s : Str} {g : V → Bool} (h : Ev ta σ H (.str s)) (hz : s.length ≤ 40000) (hw : ∀ x, wipe ((wipe σ vs).set j (some x)) vs = wipe σ vs)
    (ht : ∀ x H2, Ex H H2 → x ∈ chrs s → EvT t ((wipe σ vs).set j (some x)) H2 (g x)) (he : ∀ x H2, Ex H H2 → x ∈ chrs s → Ev te ((wipe σ vs).set j (some x)) H2 x) : EvL (tLc (iStr ta) (gName j) t te vs) σ H ((chrs s).filter g) := fun H1 e Q q =>
  h H1 e _ fun H2 e2 => ⟨s, rfl, fun Dl hD => by
    have w : Walk (Its s) (chrs s).length (fun _ => True) (YAt (chrs s)) := by
      have l : (chrs s).length = s.cps.size := by simp [chrs]
      rw [l]
      refine walk_str.mono (fun _ z => z) fun i H v H' hi _ y => ?_
      obtain ⟨e, c, hc, rfl⟩ := y
      exact ⟨e, by simp [chrs, hc]⟩
    have l5 : (chrs s).length ≤ 40000 := by simp [chrs]; exact hz
    refine lc_it w (Evl.Cw H2 (fun i => g (((chrs s)[i]?).getD .non)) (fun i => ((chrs s)[i]?).getD .non) Dl) ⟨hD, Ex.new hD, upd_same⟩ (fun _ _ _ _ => trivial) (fun i x H3 H4 hi p y => ?_) fun H3 p => ?_
    · obtain ⟨rfl, hx⟩ := y
      have hm := List.mem_of_getElem? hx
      refine ⟨hw x, Evl.cw_turn p (by omega) ?_ fun _ => ?_⟩
      · rw [hx]; exact ht x H2 (e.trans e2) hm
      · rw [hx]; exact he x H2 (e.trans e2) hm
    · refine q Dl H3 (Evl.fresh_back e2 p.1) (e2.trans p.2.1) ?_
      have := p.2.2
      rw [given_filter] at this
      exact this⟩
theorem el_lcF {a : Addr} {xs : List V} {g : V → Bool} (h : Ev tl σ H (.ref a)) (hx : SqL K H a xs) (hz : xs.length ≤ 40000) (hw : ∀ x, wipe ((wipe σ vs).set j (some x)) vs = wipe σ vs)
    (ht : ∀ x H2, Ex H H2 → x ∈ xs → EvT t ((wipe σ vs).set j (some x)) H2 (g x)) (he : ∀ x H2, Ex H H2 → x ∈ xs → Ev te ((wipe σ vs).set j (some x)) H2 x) : EvL (tLc (iList K tl) (gName j) t te vs) σ H (xs.filter g) := by
  have := Evl.el_lcL (K := K) (te := te) (t := t) (vs := vs) (j := j) (fun i => g ((xs[i]?).getD .non)) (fun i => (xs[i]?).getD .non) h hx hz hw (fun i x H1 e hi => by rw [hi]; exact ht x H1 e (List.mem_of_getElem? hi)) (fun i x H1 e hi _ => by rw [hi]; exact he x H1 e (List.mem_of_getElem? hi))
  rw [given_filter] at this
  exact this
end
def ab : Str := "abcdefghijklmnopqrstuvwxyz"
theorem ab_ok : ∀ c ∈ ab.cps.toList, 97 ≤ c ∧ c ≤ 122 := by decide +kernel
theorem ab_len : ab.cps.toList.length = 26 := by decide +kernel
def abS : List Str := ab.cps.toList.map fun c => ⟨#[c]⟩
theorem ab_chrs : chrs ab = abS.map V.str := by unfold chrs abS; rw [List.map_map]; rfl
theorem abS_nd : abS.Nodup := by decide +kernel
theorem abS_len : abS.length = 26 := by decide +kernel
theorem abS_w : ∀ x ∈ abS, isW x := fun x hx => by
  obtain ⟨c, hc, rfl⟩ := List.mem_map.mp hx
  refine ⟨by show 1 ≤ 1; decide, by show 1 ≤ 8; decide, fun d hd => ?_⟩
  have : d = c := by simpa using hd
  rw [this]; exact ab_ok c hc
section
variable {P : Program} {w : World} {K : PySem.W.Frag} {mg : Str → Option Value} {base : Heap} {C_Shape C_InvalidData C_InvalidShape C_StayError : Addr}
def spWord : Sp := fun vs H Q _ => ∃ (S c : Addr), vs = [.ref S] ∧ StAt H S c ∧ ∀ H' w, Mv S c H H' → isW w → Q (.str w) H'
theorem ok__law_word (T : Txt K mg C_Shape C_InvalidData C_InvalidShape C_StayError) (R : Prg K mg C_Shape C_InvalidData C_InvalidShape C_StayError) : ∃ f fd, Fn P w K mg base "_law_word" 2 ["_law_stream_here"] spWord f fd := by
  obtain ⟨_, _, G__law_draw⟩ := ok__law_draw (P := P) (w := w) (base := base) T R
  obtain ⟨f, fd, at_, F, kp⟩ := R._law_word
  refine ⟨f, fd, F.ok sc__law_word (fun vs H Q E h => ?_) (fun cdv A outer s H vs Q E hr h => ?_), at_, kp, F.binds (fun _ _ _ _ _ _ us hl => match us, hl with | [_], _ => rfl)⟩
  · obtain ⟨S, c, rfl, _⟩ := h; rfl
  · obtain ⟨S, c, rfl, st, k⟩ := h
    refine ⟨_, (pss_cons (ps_set (i := 1) sc__law_word.nd rfl (Or.inl rfl) pe_str)
  (pss_cons (ps_set (i := 2) sc__law_word.nd rfl (Or.inl rfl) (pe_op op_add pe_int (pcl G__law_draw hr (pa_cons (pv 0) (pa_cons pe_int pa_nil)))))
  (Evl.pss_cut (ps_if (pt_cmpR op_gt (pcl G__law_draw hr (pa_cons (pv 0) (pa_cons pe_int pa_nil))) pe_int (nomark _)) (pss_one (ps_set (i := 2) sc__law_word.nd rfl (Or.inl rfl) (pe_op op_add pe_int (pe_op op_mod (pe_callTy call_int1 (by rfl) T.int (by decide +kernel) (pa_cons (pv 2) pa_nil)) pe_int)))) pss_nil)
  (pss_cons (ps_set (i := 3) sc__law_word.nd rfl (Or.inl rfl) (pcl G__law_draw hr (pa_cons (pv 0) (pa_cons pe_int pa_nil))))
  (pss_cons (ps_set (i := 4) sc__law_word.nd rfl (Or.inl rfl) pe_str)
  (pss_cons (ps_for PassesOwn.never rfl (pi_range1 (by rfl) T.range (pa_cons (pv 2) pa_nil)) (pg_name (i := 5) sc__law_word.nd rfl (Or.inl rfl))
    (pss_cons (ps_set (i := 4) sc__law_word.nd rfl (Or.inl rfl) (pe_op op_add_str (pv 4) (pe_ix ix_str (pv 1) (pe_op op_mod (pe_callTy call_int1 (by rfl) T.int (by decide +kernel) (pa_cons (pv 3) pa_nil)) pe_int) (fun _ _ => rfl))))
  (pss_one (ps_set (i := 3) sc__law_word.nd rfl (Or.inl rfl) (pe_op op_fdiv (pv 3) pe_int)))))
  (pss_one (ps_ret (pv 4))))))))), ?_⟩
    refine Evl.q_asg Evl.ev_c fun H1 e1 => ?_
    refine ⟨_, rfl, S, c, 8, rfl, st.ex e1, by decide, by decide, fun H2 r m2 r0 r1 => ⟨_, _, rfl, rfl, ?_⟩⟩
    have m02 := (Mv.ex st e1).trans m2
    refine Evl.q_cut (M := fun σ' H' => ∃ sz : Int, σ' = [some (.ref S), some (.str ab), some (.int sz), none, none, none] ∧ 1 ≤ sz ∧ sz ≤ 8 ∧ Mv S c H H') ?_ ?_
    · refine ⟨_, rfl, S, c, 3, rfl, m02.z, by decide, by decide, fun H3 r3 m3 _ _ => ⟨_, _, rfl, rfl, _, rfl, ?_⟩⟩
      refine ite2 (fun _ => ?_) (fun _ => ?_)
      · refine Evl.s_asg (Evl.ev_op Evl.ev_c (Evl.ev_op (ev_int1 (Evl.ev_var rfl)) Evl.ev_c (Evl.rv_I (by decide))) Evl.rv_I0) fun H4 e4 => ?_
        have q0 : 0 ≤ (1 + r) % 2 := Int.emod_nonneg _ (by decide)
        have q1 : (1 + r) % 2 < 2 := Int.emod_lt_of_pos _ (by decide)
        exact ⟨_, rfl, by omega, by omega, (m02.trans m3).tx e4⟩
      · exact ⟨_, rfl, by omega, by omega, m02.trans m3⟩
    · rintro σ' H3 ⟨sz, rfl, z1, z8, m3⟩
      refine ⟨_, rfl, S, c, 208827064576, rfl, m3.z, by decide, by decide, fun H4 r4 m4 _ _ => ?_⟩
      have m04 := m3.trans m4
      refine Evl.q_asg Evl.ev_c fun H5 e5 => ?_
      refine Evl.q_forR1 (n := sz) (Evl.ea_cons (Evl.ev_var rfl) Evl.ea_nil) ⟨by omega, by omega⟩ (fun i σ' H' => ∃ (num : Int) (w : Str) (o5 : Option V), σ' = [some (.ref S), some (.str ab), some (.int sz), some (.int num), some (.str w), o5] ∧ Mv S c H H' ∧ w.length = i ∧ ∀ c ∈ w.cps.toList, 97 ≤ c ∧ c ≤ 122) (fun H6 e6 => ⟨_, _, _, rfl, (m04.tx e5).tx e6, rfl, fun c hc => by cases hc⟩) (fun i σ' H' hi pv => ?_) fun σ' H' pv => ?_
      · obtain ⟨num, x, o5, rfl, mH, lx, hx⟩ := pv
        have q0 : 0 ≤ num % 26 := Int.emod_nonneg _ (by decide)
        have q1 : num % 26 < 26 := Int.emod_lt_of_pos _ (by decide)
        obtain ⟨ch, hch, hat⟩ := at_get (xs := ab.cps.toList) q0 (by rw [ab_len]; exact q1)
        refine Evl.q_asg (Evl.ev_op (Evl.ev_var rfl) (Evl.ev_op (Evl.ev_var rfl) (Evl.ev_op (ev_int1 (Evl.ev_var rfl)) Evl.ev_c (Evl.rv_I (by decide))) (Evl.rv_ixS (by show 26 ≤ 100000; decide) hat)) (z := .str (x ++ ⟨#[ch]⟩)) (fun H7 _ Q' q' => ⟨_, _, rfl, rfl, Evl.sz_of (by show x.length + 1 ≤ 100000; omega), q' _ (Ex.refl _)⟩)) fun H7 e7 => ?_
        refine Evl.s_asg (Evl.ev_op (Evl.ev_var rfl) Evl.ev_c (Evl.rv_I ⟨by decide, by decide⟩)) fun H8 e8 => ?_
        refine ⟨_, _, _, rfl, (mH.tx e7).tx e8, ?_, ?_⟩
        · show (x.cps ++ #[ch]).size = i + 1
          rw [Array.size_append]
          show x.length + 1 = i + 1
          rw [lx]
        · intro d hd
          have hd : d ∈ (x.cps ++ #[ch]).toList := hd
          rw [Array.toList_append, List.mem_append] at hd
          rcases hd with hd | hd
          · exact hx d hd
          · have : d = ch := by simpa using hd
            rw [this]
            exact ab_ok _ (List.mem_of_getElem? hch)
      · obtain ⟨num, x, o5, rfl, mH, lx, hx⟩ := pv
        exact Evl.s_ret (Evl.ev_var rfl) fun H7 e7 => k H7 x (mH.tx e7) ⟨by omega, by omega, hx⟩
theorem Mv.lst0 {S c : Addr} {H H' : Hp} (m : Mv S c H H') {t : Addr} (h : H t = some (.lst [])) : H' t = some (.lst []) := by
  obtain ⟨_, k, cs, h1, h2, h3, _⟩ := m.a
  refine m.fr t _ (fun e => by rw [e, h1] at h; cases h) (fun e => ?_) h
  rw [e, h2] at h
  cases cs with
  | nil => simp at h3
  | cons x xs => cases h
def spNames : Sp := fun vs H Q _ => ∃ (S c t : Addr) (k : Int), vs = [.ref S, .int k, .ref t] ∧ StAt H S c ∧ 0 ≤ k ∧ k ≤ 4 ∧ H t = some (.lst []) ∧ ∀ H' q (ws : List Str), Mv S c H H' → H q = none → H' q = some (.lst (ws.map V.str)) → (ws.length : Int) = k → (∀ x ∈ ws, isW x) → ws.Nodup → Q (.ref q) H'
theorem ok__law_names (T : Txt K mg C_Shape C_InvalidData C_InvalidShape C_StayError) (R : Prg K mg C_Shape C_InvalidData C_InvalidShape C_StayError) : ∃ f fd, Fn P w K mg base "_law_names" 3 ["_law_stream_here", "_law_many", "_law_taken"] spNames f fd := by
  obtain ⟨_, _, G__law_word⟩ := ok__law_word (P := P) (w := w) (base := base) T R
  obtain ⟨f, fd, at_, F, kp⟩ := R._law_names
  refine ⟨f, fd, F.ok sc__law_names (fun vs H Q E h => ?_) (fun cdv A outer s H vs Q E hr h => ?_), at_, kp, F.binds (fun _ _ _ _ _ _ us hl => match us, hl with | [_, _, _], _ => rfl)⟩
  · obtain ⟨S, c, t, n, rfl, _⟩ := h; rfl
  · obtain ⟨S, c, t, n, rfl, st, n0, n4, ht, k⟩ := h
    refine ⟨_, (pss_cons (ps_set (i := 3) sc__law_names.nd rfl (Or.inr rfl) (pe_lst pa_nil))
  (pss_cons (ps_for PassesOwn.never rfl (pi_range1 (by rfl) T.range (pa_cons (pv 1) pa_nil)) (pg_name (i := 4) sc__law_names.nd rfl (Or.inl rfl))
    (pss_cons (ps_set (i := 5) sc__law_names.nd rfl (Or.inl rfl) (pcl G__law_word hr (pa_cons (pv 0) pa_nil)))
  (Evl.pss_cut (ps_if (PW.pt (pw_or (pt_cmpR (r := rIn K false) op_in_seq (pv 5) (pv 2) (by rfl)) (pw_or1 (pt_cmpR (r := rIn K false) op_in_seq (pv 5) (pv 3) (by rfl))))) (pss_cons (ps_setLc (i := 6) (own := [("_law_spare", 7)]) rfl sc__law_names.nd rfl rfl (sw_true rfl rfl rfl (by decide +kernel)) (pi_str pe_str) (blkOk_by (own := [("_law_spare", 7)]) (N := ["_law_stream_here", "_law_many", "_law_taken", "_law_names_here", "_law_k", "_law_word_here", "_law_spares", "_law_spare"]) (sc := defScope s__law_names) (by decide +kernel)) (fun _ _ _ _ _ => (pg_name (i := 7) sc__law_names.nd rfl (Or.inl rfl))) (fun _ _ _ _ _ => (pts_one (pt_cmpR (r := rIn K true) op_notIn_seq (pv 7) (pv 2) (by rfl)))) (fun _ _ _ _ _ => (pv 7)))
  (pss_one (ps_set (i := 5) sc__law_names.nd rfl (Or.inl rfl) (pe_ix (r := rIxL K) ix_list (pe_lc (own := [("_law_spare", 7)]) rfl sc__law_names.nd (show PI _ _ _ (iList K _) from pi_list (pv 6)) (blkOk_by (own := [("_law_spare", 7)]) (N := ["_law_stream_here", "_law_many", "_law_taken", "_law_names_here", "_law_k", "_law_word_here", "_law_spares", "_law_spare"]) (sc := defScope s__law_names) (by decide +kernel)) (fun _ _ _ _ _ => (pg_name (i := 7) sc__law_names.nd rfl (Or.inl rfl))) (fun _ _ _ _ _ => (pts_one (pt_cmpR (r := rIn K true) op_notIn_seq (pv 7) (pv 3) (by rfl)))) (fun _ _ _ _ _ => (pv 7))) pe_int (fun _ _ => rfl))))) pss_nil)
  (pss_one (ps_expr (show PE _ _ (tBM K _ _ _ _) from pe_bm PySem.F.plainAttrs_list PySem.F.slot_list_append PySem.F.type_list_append mt_append (pv 3) (pa_cons (pv 5) pa_nil)))))))
  (pss_one (ps_ret (pv 3))))), ?_⟩
    refine Evl.q_asgL (xs := []) (Evl.el_lst Evl.ea_nil (Nat.zero_le _)) fun q H1 hq e1 hq1 => ?_
    refine Evl.q_forR1 (n := n) (Evl.ea_cons (Evl.ev_var rfl) Evl.ea_nil) ⟨by omega, by omega⟩ (fun i σ' H' => ∃ (ws : List Str) (o4 o5 o6 : Option V), σ' = [some (.ref S), some (.int n), some (.ref t), some (.ref q), o4, o5, o6, none] ∧ Mv S c H H' ∧ H' q = some (.lst (ws.map V.str)) ∧ ws.length = i ∧ (∀ x ∈ ws, isW x) ∧ ws.Nodup) (fun H2 e2 => ⟨[], _, _, _, rfl, .ex st (e1.trans e2), e2 _ _ hq1, rfl, fun x hx => (nomatch hx), List.nodup_nil⟩) (fun i σ' H' hi pv => ?_) fun σ' H' pv => ?_
    · obtain ⟨ws, o4, o5, o6, rfl, mH, hws, lws, wok, wnd⟩ := pv
      refine ⟨_, rfl, S, c, rfl, mH.z, fun H2 x m2 hx => ?_⟩
      have m02 := mH.trans m2
      have hq2 : H2 q = some (.lst (ws.map V.str)) := m2.fr q _ (st.someS hq).1 (st.someS hq).2 hws
      have ht2 := m02.lst0 ht
      have w5 : (ws.map V.str).length ≤ 40000 := by rw [List.length_map]; omega
      refine Evl.q_cut (M := fun σ' H' => ∃ (y : Str) (o6 : Option V), σ' = [some (.ref S), some (.int n), some (.ref t), some (.ref q), some (.int i), some (.str y), o6, none] ∧ Mv S c H H' ∧ H' q = some (.lst (ws.map V.str)) ∧ isW y ∧ y ∉ ws) ?_ ?_
      · refine Evl.s_when (Evl.et_or (Evl.et_test (Evl.ev_op (Evl.ev_var rfl) (Evl.ev_var rfl) (Evl.rv_isL (Evl.sq_of ht2) rfl rfl))) fun _ => Evl.et_test (Evl.ev_op (Evl.ev_var rfl) (Evl.ev_var rfl) (Evl.rv_isL (Evl.sq_of hq2) rfl (flat_strs ws)))) (fun _ H3 e3 => ?_) (fun hb H3 e3 => ?_)
        · refine Evl.q_asgL (xs := abS.map V.str) ?_ fun p H4 hp e4 hp4 => ?_
          · have := el_lcSF (s := ab) (g := fun _ => true) (ta := tC (.str ab)) (te := tVar 7) (t := tTest (tOp (rIn K true) (tVar 7) (tVar 2))) (j := 7) (vs := [7]) (H := H3) (σ := [some (.ref S), some (.int n), some (.ref t), some (.ref q), some (.int i), some (.str x), o6, none]) Evl.ev_c (by show 26 ≤ 40000; decide) (fun _ => rfl) (fun z H5 e5 hz => ?_) (fun z H5 e5 hz => Evl.ev_var rfl)
            · rw [List.filter_eq_self.mpr (fun _ _ => rfl), ab_chrs] at this
              exact this
            · obtain ⟨u, _, rfl⟩ := List.mem_map.mp hz
              exact Evl.et_is (Evl.et_test (Evl.ev_op (Evl.ev_var rfl) (Evl.ev_var rfl) (Evl.rv_niL (Evl.sq_of ((e3.trans e5) _ _ ht2)) rfl rfl))) rfl
          · obtain ⟨y, hy1, hy2⟩ : ∃ y, ((abS.map V.str).filter fun z => !inV z (ws.map V.str))[0]? = some (.str y) ∧ isW y ∧ y ∉ ws := by
              cases hc : ((abS.map V.str).filter fun z => !inV z (ws.map V.str)) with
              | nil =>
                exfalso
                have sub : ∀ x ∈ abS, x ∈ ws := fun x hx => by
                  have := List.filter_eq_nil_iff.mp hc (.str x) (List.mem_map.mpr ⟨x, hx, rfl⟩)
                  refine inV_strs.mp ?_
                  simpa using this
                have := pigeon abS_nd sub
                rw [abS_len] at this
                omega
              | cons z zs =>
                have hz : z ∈ (abS.map V.str).filter fun z => !inV z (ws.map V.str) := by rw [hc]; exact List.mem_cons_self
                obtain ⟨h1, h2⟩ := List.mem_filter.mp hz
                obtain ⟨u, hu, rfl⟩ := List.mem_map.mp h1
                refine ⟨u, rfl, abS_w u hu, fun hm => ?_⟩
                rw [inV_strs.mpr hm] at h2
                cases h2
            refine Evl.s_asg (v := .str y) (Evl.ev_opL1 (xs := (abS.map V.str).filter fun z => !inV z (ws.map V.str)) (el_lcF (Evl.ev_var rfl) (Evl.sq_of hp4) (by rw [List.length_map, abS_len]; decide) (fun _ => rfl) (fun z H5 e5 hz => ?_) (fun z H5 e5 hz => Evl.ev_var rfl)) (fun _ _ => Evl.ev_c) fun p2 H5 hp5 e5 => Evl.rv_ixL (Evl.sq_of hp5) (atI_nat hy1)) fun H5 e5 => ?_
            · obtain ⟨u, _, rfl⟩ := List.mem_map.mp hz
              exact Evl.et_test (Evl.ev_op (Evl.ev_var rfl) (Evl.ev_var rfl) (Evl.rv_niL (Evl.sq_of ((e3.trans (e4.trans e5)) _ _ hq2)) rfl (flat_strs ws)))
            · have e35 := e3.trans (e4.trans e5)
              exact ⟨y, _, rfl, m02.tx e35, e35 _ _ hq2, hy2.1, hy2.2⟩
        · refine ⟨x, _, rfl, m02.tx e3, e3 _ _ hq2, hx, fun hm => ?_⟩
          rw [inV_strs.mpr hm] at hb
          simp at hb
      · rintro σ' H3 ⟨y, o6, rfl, m3, hq3, yW, yn⟩
        refine Evl.s_app hq3 (Evl.ev_var rfl) (Evl.ev_var rfl) (by omega) fun H4 e4 => ?_
        refine ⟨ws ++ [y], _, _, _, rfl, (m3.tx e4).mut hq, by rw [upd_same, List.map_append]; rfl, by rw [List.length_append, lws]; rfl, fun z hz => ?_, ?_⟩
        · rcases List.mem_append.mp hz with hz | hz
          · exact wok z hz
          · rw [List.mem_singleton.mp hz]; exact yW
        · refine List.nodup_append.mpr ⟨wnd, by simp, fun a ha b hb => ?_⟩
          rw [List.mem_singleton.mp hb]
          intro e
          exact yn (by rw [← e]; exact ha)
    · obtain ⟨ws, o4, o5, o6, rfl, mH, hws, lws, wok, wnd⟩ := pv
      exact Evl.s_ret (Evl.ev_var rfl) fun H7 e7 => k H7 q ws (mH.tx e7) hq (e7 _ _ hws) (by omega) wok wnd
end
end Pk

namespace Pk
open PySem PySem.Spec PyProof.Rows L2 Ssb
open Evl (Ex Ev EvT EvL EvA EvU)
/-- only what stands counts -/
theorem rep_dom {H : Hp} : ∀ {n : Nat} {S : Addr → Prop} {d : D} {v : V}, Rep H n S d v → Rep H n (fun b => S b ∧ H b ≠ none) d v
  | 0, _, _, _, h => h.elim
  | n + 1, S, d, v, h => by
    cases d with
    | non => exact h
    | bl b => exact h
    | int i => exact h
    | str s => exact h
    | lst l =>
      obtain ⟨a, xs, e, s, ha, hl, p⟩ := h
      exact ⟨a, xs, e, ⟨s, by rw [ha]; exact fun z => nomatch z⟩, ha, hl, pair_imp p fun d x r => rep_dom r⟩
    | tup l =>
      obtain ⟨a, xs, e, ha, hl, p⟩ := h
      exact ⟨a, xs, e, ha, hl, pair_imp p fun d x r => rep_dom r⟩
    | dic l =>
      obtain ⟨a, es, e, s, ha, hl, p⟩ := h
      exact ⟨a, es, e, ⟨s, by rw [ha]; exact fun z => nomatch z⟩, ha, hl, pair_imp p fun q x r => ⟨r.1, rep_S (fun b z => ⟨⟨z.1.1, z.2⟩, z.1.2⟩) (rep_dom r.2)⟩⟩
theorem rep_Sd {H : Hp} {n : Nat} {S S' : Addr → Prop} {d : D} {v : V} (k : ∀ b, S b → H b ≠ none → S' b) (h : Rep H n S d v) : Rep H n S' d v := rep_S (fun b z => k b z.1 z.2) (rep_dom h)
theorem rep_upd {H : Hp} {n : Nat} {S : Addr → Prop} {d : D} {v : V} {a : Addr} {o u : HO} (ha : H a = some o) (no : ∀ xs, o ≠ .tup xs) (hS : ∀ b, S b → b ≠ a) (h : Rep H n S d v) : Rep (upd H a u) n S d v :=
  rep_to (fun b o' hb z => by
    have ne : b ≠ a := by
      rcases z with z | ⟨xs, rfl⟩
      · exact hS b z
      · intro e; rw [e, ha] at hb; exact no xs (Option.some.inj hb)
    rw [upd_ne ne]; exact hb) h
theorem lk_none {α : Type} : ∀ {l : List (Str × α)} {k : Str}, k ∉ l.map (·.1) → l.lookup k = none
  | [], _, _ => rfl
  | (j, d) :: l, k, h => by
    rw [lk_cons, if_neg (fun e => h (by rw [e]; exact List.mem_cons_self))]
    exact lk_none fun z => h (List.mem_cons_of_mem _ z)
theorem pair_strs {H : Hp} {n : Nat} {S : Addr → Prop} : ∀ {ws : List Str}, Paired (fun d x => Rep H (n + 1) S d x) (ws.map D.str) (ws.map V.str)
  | [] => .nil
  | w :: ws => .cons rfl pair_strs
theorem take_snoc {α : Type} {l : List α} {i : Nat} {x : α} (h : l[i]? = some x) : l.take (i + 1) = l.take i ++ [x] := by rw [List.take_add_one, h]; rfl
theorem not_take {α : Type} {l : List α} {i : Nat} {x : α} (nd : l.Nodup) (h : l[i]? = some x) : x ∉ l.take i := fun hm =>
  (List.nodup_append.mp (by rw [← take_snoc h]; exact List.Sublist.nodup (List.take_sublist _ _) nd : (l.take i ++ [x]).Nodup)).2.2 x hm x (List.mem_singleton.mpr rfl) rfl
theorem str_at {ws : List Str} {i : Nat} {x : V} (h : (ws.map V.str)[i]? = some x) : ∃ y, ws[i]? = some y ∧ x = .str y := by
  rw [List.getElem?_map] at h
  cases hy : ws[i]? with
  | none => rw [hy] at h; cases h
  | some y => rw [hy] at h; exact ⟨y, rfl, (Option.some.inj h).symm⟩
section
variable {P : Program} {w : World} {K : PySem.W.Frag} {mg : Str → Option Value} {base : Heap} {C_Shape C_InvalidData C_InvalidShape C_StayError : Addr}
def okFe (p : Str × List Str) : Prop := isW p.1 ∧ 2 ≤ p.2.length ∧ p.2.length ≤ 3 ∧ (∀ x ∈ p.2, isW x) ∧ p.2.Nodup
def spFieldsG : Sp := fun vs H Q _ => ∃ (S c : Addr), vs = [.ref S, .int 2] ∧ StAt H S c ∧ ∀ H' q f, Mv S c H H' → Rep H' 3 (fun b => H b = none) (flD f) (.ref q) → okFl f → Q (.ref q) H'
theorem ok__law_fields (T : Txt K mg C_Shape C_InvalidData C_InvalidShape C_StayError) (R : Prg K mg C_Shape C_InvalidData C_InvalidShape C_StayError) : ∃ f fd, Fn P w K mg base "_law_fields" 4 ["_law_stream_here", "_law_most"] spFieldsG f fd := by
  obtain ⟨_, _, G__law_names⟩ := ok__law_names (P := P) (w := w) (base := base) T R
  obtain ⟨_, _, G__law_draw⟩ := ok__law_draw (P := P) (w := w) (base := base) T R
  obtain ⟨f, fd, at_, F, kp⟩ := R._law_fields
  refine ⟨f, fd, F.ok sc__law_fields (fun vs H Q E h => ?_) (fun cdv A outer s H vs Q E hr h => ?_), at_, kp, F.binds (fun _ _ _ _ _ _ us hl => match us, hl with | [_, _], _ => rfl)⟩
  · obtain ⟨S, c, rfl, _⟩ := h; rfl
  · obtain ⟨S, c, rfl, st, k⟩ := h
    refine ⟨_, (pss_cons (ps_set (i := 2) sc__law_fields.nd rfl (Or.inl rfl) pe_dnewK)
  (pss_cons (ps_for PassesOwn.never rfl (show PI _ _ _ (iList K _) from pi_list (pcl G__law_names hr (pa_cons (pv 0) (pa_cons (pcl G__law_draw hr (pa_cons (pv 0) (pa_cons (pe_op op_add (pv 1) pe_int) pa_nil))) (pa_cons (pe_lst pa_nil) pa_nil))))) (pg_name (i := 3) sc__law_fields.nd rfl (Or.inl rfl))
    (pss_one (ps_dput (hu_of hr) (pv 2) (pv 3) (pe_callTy (r := rTupA K) call_tuple_of (by rfl) T.tuple (by decide +kernel) (pa_cons (pcl G__law_names hr (pa_cons (pv 0) (pa_cons (pe_op op_add pe_int (pcl G__law_draw hr (pa_cons (pv 0) (pa_cons pe_int pa_nil)))) (pa_cons (pe_lst pa_nil) pa_nil)))) pa_nil)) rfl)))
  (pss_one (ps_ret (pv 2))))), ?_⟩
    intro d hd
    have md := Mv.new (o := .dK []) st hd
    refine ⟨_, rfl, _, rfl, _, rfl, _, _, rfl, rfl, S, c, 3, rfl, md.z, by decide, by decide, fun H2 r m2 r0 r1 => ⟨(by show 0 ≤ sizeLine; decide), fun t0 ht0 => ?_⟩⟩
    have m02 := (md.trans m2).trans (.new (o := .lst []) m2.z ht0)
    refine ⟨S, c, t0, r, rfl, m02.z, r0, by omega, upd_same, fun H3 q ws m3 hq hq3 lw wok wnd => ?_⟩
    have m03 := m02.trans m3
    have hd1 : H3 d = some (.dK []) := by
      refine m3.fr d _ (st.someS hd).1 (st.someS hd).2 ?_
      rw [upd_ne (fun e => by rw [← e, m2.fr d _ (st.someS hd).1 (st.someS hd).2 upd_same] at ht0; cases ht0)]
      exact m2.fr d _ (st.someS hd).1 (st.someS hd).2 upd_same
    have nqd : q ≠ d := fun e => by rw [e, hd1] at hq3; cases hq3
    have qS : q ≠ S ∧ q ≠ c := m02.z.someS hq
    refine ⟨q, rfl, ⟨_, Evl.sq_of hq3⟩, for_list (K := K) (a := q) (xs := ws.map V.str) (fun i σ' H' => ∃ (es : List (Key × V)) (f : Fl) (o3 : Option V), σ' = [some (.ref S), some (.int 2), some (.ref d), o3] ∧ Mv S c H H' ∧ H' q = some (.lst (ws.map V.str)) ∧ H' d = some (.dK es) ∧ f.map (·.1) = ws.take i ∧ (∀ p ∈ f, okFe p) ∧
      Paired (fun (x : Str × D) (e : Key × V) => e.1 = Sum.inr x.1 ∧ Rep H' 2 (fun b => H b = none ∧ b ≠ d) x.2 e.2) (f.map fun p => (p.1, .tup (p.2.map .str))) es) ⟨[], [], _, rfl, m03, hq3, hd1, rfl, fun p hp => (nomatch hp), .nil⟩ (fun i σ' H' _ ⟨_, _, _, _, _, h, _⟩ => Evl.sq_of h) (fun i x σ' H' hx pv => ?_) fun σ' H' pv => ?_⟩
    · obtain ⟨es, f, o3, rfl, mH, hqH, hdH, fk, fok, pr⟩ := pv
      obtain ⟨y, hy, rfl⟩ := str_at hx
      refine ⟨_, rfl, _, rfl, S, c, 2, rfl, mH.z, by decide, by decide, fun H5 r5 m5 s0 s1 => ⟨_, _, rfl, rfl, (by show 0 ≤ sizeLine; decide), fun t1 ht1 => ?_⟩⟩
      have m6 := m5.trans (.new (o := .lst []) m5.z ht1)
      refine ⟨S, c, t1, 2 + r5, rfl, m6.z, by omega, by omega, upd_same, fun H7 q7 xs m7 hq7 hq77 lx xok xnd => ?_⟩
      refine ⟨q7, _, rfl, .inl ⟨Evl.sq_of hq77, fun tp htp => ?_⟩⟩
      have m8 := (m6.trans m7).tx (Ex.new (o := .tup (xs.map V.str)) htp)
      have dS := st.someS hd
      have hd8 := m8.fr d _ dS.1 dS.2 hdH
      have hq8 := m8.fr q _ qS.1 qS.2 hqH
      have ht8 : (upd H7 tp (.tup (xs.map V.str))) tp = some (.tup (xs.map V.str)) := upd_same
      generalize (upd H7 tp (.tup (xs.map V.str))) = H8 at m8 hd8 hq8 ht8 ⊢
      have les : es.length ≤ 100 := by
        have h1 := pair_len pr
        have h2 : f.length ≤ ws.length := by
          have := congrArg List.length fk
          rw [List.length_map, List.length_take] at this
          omega
        rw [List.length_map] at h1
        omega
      have nv : valV es (Sum.inr y : Key) = none := pair_no (F := fun x v => Rep H' 2 (fun b => H b = none ∧ b ≠ d) x v) pr (lk_none (by rw [List.map_map]; show y ∉ f.map (·.1); rw [fk]; exact not_take wnd hy))
      refine ⟨_, rfl, _, rfl, d, _, rfl, .inl ⟨es, Sum.inr y, hd8, rfl, Evl.sz_lt (by omega), rfl⟩, ?_⟩
      refine ⟨es ++ [(Sum.inr y, .ref tp)], f ++ [(y, xs)], _, rfl, (mH.trans m8).mut hd, by rw [upd_ne nqd]; exact hq8, by rw [upd_same, putK_new _ nv], by rw [List.map_append, fk, take_snoc hy]; rfl, fun p hp => ?_, ?_⟩
      · rcases List.mem_append.mp hp with hp | hp
        · exact fok p hp
        · rw [List.mem_singleton.mp hp]
          exact ⟨wok y (List.mem_of_getElem? hy), by show 2 ≤ xs.length; omega, by show xs.length ≤ 3; omega, xok, xnd⟩
      · rw [List.map_append]
        have tr : ∀ {x : D} {v : V}, Rep H8 2 (fun b => H b = none ∧ b ≠ d) x v → Rep (upd H8 d (.dK (putK es (Sum.inr y) (.ref tp)))) 2 (fun b => H b = none ∧ b ≠ d) x v := fun h => rep_lock hd8 (fun b z => z.2) h
        refine pair_snoc (pair_imp pr fun a b h => ⟨h.1, tr (rep_mv m8 (fun z => (st.someS z.1).1 rfl) (fun z => (st.someS z.1).2 rfl) h.2)⟩) ⟨rfl, tr ?_⟩
        exact ⟨tp, _, rfl, ht8, by show (xs.map D.str).length ≤ 100000; rw [List.length_map]; omega, pair_strs⟩
    · obtain ⟨es, f, o3, rfl, mH, hqH, hdH, fk, fok, pr⟩ := pv
      rw [List.length_map, List.take_of_length_le (Nat.le_refl _)] at fk
      have lf : f.length = ws.length := by rw [← fk, List.length_map]
      exact Evl.s_ret (Evl.ev_var rfl) fun H7 e7 => k H7 d f (mH.tx e7) (rep_ex e7 ⟨d, es, rfl, hd, hdH, by rw [List.length_map]; omega, pr⟩) ⟨by omega, by rw [fk]; exact wnd, fok⟩
end
end Pk

namespace Pk
open PySem PySem.Spec PyProof.Rows L2 Ssb
open Evl (Ex Ev EvT EvL EvA EvU)
theorem merge2 {k1 k2 : Str} {v1 v2 : V} (ne : k1 ≠ k2) : mergeK [] [((Sum.inr k1 : Key), v1), (Sum.inr k2, v2)] = [(Sum.inr k1, v1), (Sum.inr k2, v2)] := by
  show putK (putK [] (Sum.inr k1 : Key) v1) (Sum.inr k2) v2 = _
  rw [putK_new _ (by rfl : valV ([] : List (Key × V)) (Sum.inr k1) = none), List.nil_append, putK_new]
  · rfl
  · rw [vV_cons, if_neg fun z => ne (Sum.inr.inj z)]; rfl
theorem merge3 {k1 k2 k3 : Str} {v1 v2 v3 : V} (ne : k1 ≠ k2) (n13 : k1 ≠ k3) (n23 : k2 ≠ k3) : mergeK [] [((Sum.inr k1 : Key), v1), (Sum.inr k2, v2), (Sum.inr k3, v3)] = [(Sum.inr k1, v1), (Sum.inr k2, v2), (Sum.inr k3, v3)] := by
  show putK (mergeK [] [((Sum.inr k1 : Key), v1), (Sum.inr k2, v2)]) (Sum.inr k3) v3 = _
  rw [merge2 ne, putK_new]
  · rfl
  · rw [vV_cons, if_neg fun z => n13 (Sum.inr.inj z), vV_cons, if_neg fun z => n23 (Sum.inr.inj z)]; rfl
theorem nFI : ¬ (("fields" : Str) = "inner") := by decide +kernel
theorem lk2a {d1 d2 : D} : List.lookup ("fields" : Str) [(("fields" : Str), d1), (("inner" : Str), d2)] = some d1 := by rw [lk_cons, if_pos rfl]
theorem lk2b {d1 d2 : D} : List.lookup ("inner" : Str) [(("fields" : Str), d1), (("inner" : Str), d2)] = some d2 := by rw [lk_cons, if_neg (fun e => nFI e.symm), lk_cons, if_pos rfl]
section
variable {P : Program} {w : World} {K : PySem.W.Frag} {mg : Str → Option Value} {base : Heap} {C_Shape C_InvalidData C_InvalidShape C_StayError : Addr}
/-- the j-th list of the description, its names out of ws -/
def okJ (ws : List Str) (j : Nat) (p : Str × Fl × List (Str × Fl)) : Prop := ws[j]? = some p.1 ∧ okFl p.2.1 ∧ (p.2.2 = [] ∨ ∃ x f, p.2.2 = [(x, f)] ∧ ws[j + 2]? = some x ∧ okFl f)
theorem okSh_of {ws : List Str} {s : Sh} (hn : ws.Nodup) (hl : ws.length = 4) (hw : ∀ x ∈ ws, isW x) (h2 : s.length ≤ 2) (h : ∀ j p, s[j]? = some p → okJ ws j p) : okSh s := by
  refine ⟨h2, ?_, fun p hp => ?_⟩
  · obtain ⟨w0, w1, w2, w3, rfl⟩ : ∃ a b c d, ws = [a, b, c, d] := by
      match ws, hl with
      | [a, b, c, d], _ => exact ⟨a, b, c, d, rfl⟩
    have n : w0 ≠ w1 ∧ w0 ≠ w2 ∧ w0 ≠ w3 ∧ w1 ≠ w2 ∧ w1 ≠ w3 ∧ w2 ≠ w3 := by
      simp only [List.nodup_cons, List.mem_cons, List.not_mem_nil, or_false, not_or] at hn
      exact ⟨hn.1.1, hn.1.2.1, hn.1.2.2, hn.2.1.1, hn.2.1.2, hn.2.2.1⟩
    obtain ⟨n1, n2, n3, n4, n5, n6⟩ := n
    match s, h2, h with
    | [], _, _ => exact List.nodup_nil
    | [a], _, h =>
      obtain ⟨a1, _, a3⟩ := h 0 a rfl
      obtain ⟨an, af, ai⟩ := a
      cases a1
      rcases a3 with e | ⟨x, f, e, a4, _⟩
      · cases e; simp [rowsS, rowsOf]
      · cases e; cases a4; simp [rowsS, rowsOf, n2]
    | [a, b], _, h =>
      obtain ⟨a1, _, a3⟩ := h 0 a rfl
      obtain ⟨b1, _, b3⟩ := h 1 b rfl
      obtain ⟨an, af, ai⟩ := a
      obtain ⟨bn, bf, bi⟩ := b
      cases a1
      cases b1
      rcases a3 with e | ⟨x, f, e, a4, _⟩
      · cases e
        rcases b3 with e | ⟨y, g, e, b4, _⟩
        · cases e; simp [rowsS, rowsOf, n1]
        · cases e; cases b4; simp [rowsS, rowsOf, n1, n3, n5]
      · cases e; cases a4
        rcases b3 with e | ⟨y, g, e, b4, _⟩
        · cases e; simp [rowsS, rowsOf, n1, n2, Ne.symm n4]
        · cases e; cases b4; simp [rowsS, rowsOf, n1, n2, n3, n5, Ne.symm n4, n6]
  · obtain ⟨j, hj, e⟩ := List.mem_iff_getElem.mp hp
    obtain ⟨p1, p2, p3⟩ := h j p (by rw [← e]; exact List.getElem?_eq_getElem hj)
    refine ⟨hw _ (List.mem_of_getElem? p1), p2, ?_, ?_⟩
    · rcases p3 with e | ⟨x, f, e, _⟩ <;> rw [e] <;> simp
    · rcases p3 with e | ⟨x, f, e, hx, hf⟩
      · rw [e]; intro q hq; cases hq
      · rw [e]; intro q hq
        rw [List.mem_singleton.mp hq]
        exact ⟨hw _ (List.mem_of_getElem? hx), hf⟩
def spListsG : Sp := fun vs H Q _ => ∃ (S c : Addr), vs = [.ref S, .int 2] ∧ StAt H S c ∧ ∀ H' q d s, Mv S c H H' → Rep H' 7 (fun b => H b = none) d (.ref q) → shD d s → okSh s → Q (.ref q) H'
def rep1 (H0 H' : Hp) (d : Addr) (l : List (Str × D)) (es : List (Key × V)) : Prop := Paired (fun (x : Str × D) (e : Key × V) => e.1 = Sum.inr x.1 ∧ Rep H' 6 (fun b => H0 b = none ∧ b ≠ d) x.2 e.2) l es
theorem ok__law_lists (T : Txt K mg C_Shape C_InvalidData C_InvalidShape C_StayError) (R : Prg K mg C_Shape C_InvalidData C_InvalidShape C_StayError) : ∃ f fd, Fn P w K mg base "_law_lists" 5 ["_law_stream_here", "_law_most"] spListsG f fd := by
  obtain ⟨_, _, G__law_names⟩ := ok__law_names (P := P) (w := w) (base := base) T R
  obtain ⟨_, _, G__law_draw⟩ := ok__law_draw (P := P) (w := w) (base := base) T R
  obtain ⟨_, _, G__law_fields⟩ := ok__law_fields (P := P) (w := w) (base := base) T R
  obtain ⟨f, fd, at_, F, kp⟩ := R._law_lists
  refine ⟨f, fd, F.ok sc__law_lists (fun vs H Q E h => ?_) (fun cdv A outer s H vs Q E hr h => ?_), at_, kp, F.binds (fun _ _ _ _ _ _ us hl => match us, hl with | [_, _], _ => rfl)⟩
  · obtain ⟨S, c, rfl, _⟩ := h; rfl
  · obtain ⟨S, c, rfl, st, k⟩ := h
    refine ⟨_, (pss_cons (ps_set (i := 2) sc__law_lists.nd rfl (Or.inl rfl) (pcl G__law_names hr (pa_cons (pv 0) (pa_cons pe_int (pa_cons (pe_lst pa_nil) pa_nil)))))
  (pss_cons (ps_set (i := 3) sc__law_lists.nd rfl (Or.inl rfl) pe_dnewK)
  (pss_cons (ps_for PassesOwn.never rfl (pi_range1 (by rfl) T.range (pa_cons (pe_ix (r := rIxT K) ix_tup (pe_tup (pa_cons pe_int (pa_cons pe_int (pa_cons pe_int (pa_cons pe_int (pa_cons pe_int pa_nil)))))) (pcl G__law_draw hr (pa_cons (pv 0) (pa_cons pe_int pa_nil))) (fun _ _ => rfl)) pa_nil)) (pg_name (i := 4) sc__law_lists.nd rfl (Or.inl rfl))
    (pss_cons (ps_set (i := 5) sc__law_lists.nd rfl (Or.inl rfl) pe_dnewK)
  (Evl.pss_cut (ps_if (pt_cmpR op_eq (pcl G__law_draw hr (pa_cons (pv 0) (pa_cons pe_int pa_nil))) pe_int (nomark _)) (pss_one (ps_dput (hu_of hr) (pv 5) (pe_ix (r := rIxL K) ix_list (pv 2) (pe_op op_add (pv 4) pe_int) (fun _ _ => rfl)) (pe_disp (pps_cons pe_str (pcl G__law_fields hr (pa_cons (pv 0) (pa_cons (pv 1) pa_nil))) (pps_cons pe_str pe_dnewK pps_nil)) (by rfl) (by rfl) (fun z => by cases z) (by decide)) rfl)) pss_nil)
  (pss_one (ps_dput (hu_of hr) (pv 3) (pe_ix (r := rIxL K) ix_list (pv 2) (pv 4) (fun _ _ => rfl)) (pe_disp (pps_cons pe_str (pcl G__law_fields hr (pa_cons (pv 0) (pa_cons (pv 1) pa_nil))) (pps_cons pe_str (pv 5) pps_nil)) (by rfl) (by rfl) (fun z => by cases z) (by decide)) rfl)))))
  (pss_one (ps_ret (pv 3)))))), ?_⟩
    refine ⟨_, rfl, (by show 0 ≤ sizeLine; decide), fun t0 ht0 => ⟨S, c, t0, 4, rfl, (Mv.new st ht0).z, by decide, by decide, upd_same, fun H1 q ws m1 hq hq1 lw wok wnd => ?_⟩⟩
    have m01 := (Mv.new (o := .lst []) st ht0).trans m1
    have hqn : H q = none := (Mv.new (o := .lst []) st ht0).back hq
    have qS := st.someS hqn
    have l4 : ws.length = 4 := by omega
    intro d hd
    have hdn : H d = none := m01.back hd
    have dS := st.someS hdn
    have nqd : q ≠ d := fun e => by rw [← e, hq1] at hd; cases hd
    have m02 := m01.tx (Ex.new (o := .dK []) hd)
    refine ⟨(by show 5 ≤ sizeLine; decide), fun tp htp => ?_⟩
    have m03 := m02.tx (Ex.new (o := .tup [.int 1, .int 1, .int 2, .int 0, .int 2]) htp)
    refine ⟨_, rfl, S, c, 5, rfl, m03.z, by decide, by decide, fun H4 r m4 r0 r1 => ?_⟩
    have m04 := m03.trans m4
    have hq4 : H4 q = some (.lst (ws.map V.str)) := m4.fr q _ qS.1 qS.2 (Ex.new htp _ _ (Ex.new hd _ _ hq1))
    have hd4 : H4 d = some (.dK []) := m4.fr d _ dS.1 dS.2 (Ex.new htp _ _ upd_same)
    obtain ⟨n, hn, n0, n2⟩ : ∃ n : Int, atI [V.int 1, .int 1, .int 2, .int 0, .int 2] r = some (.int n) ∧ 0 ≤ n ∧ n ≤ 2 := by
      rcases (by omega : r = 0 ∨ r = 1 ∨ r = 2 ∨ r = 3 ∨ r = 4) with rfl | rfl | rfl | rfl | rfl
      · exact ⟨1, rfl, by decide, by decide⟩
      · exact ⟨1, rfl, by decide, by decide⟩
      · exact ⟨2, rfl, by decide, by decide⟩
      · exact ⟨0, rfl, by decide, by decide⟩
      · exact ⟨2, rfl, by decide, by decide⟩
    refine ⟨tp, _, r, .int n, rfl, rfl, Evl.st_of (m4.tup upd_same), hn, n, rfl, by omega, by omega, ?_⟩
    refine for_it walk_range (fun i σ' H' => ∃ (es : List (Key × V)) (l : List (Str × D)) (s : Sh) (o4 o5 : Option V), σ' = [some (.ref S), some (.int 2), some (.ref q), some (.ref d), o4, o5] ∧ Mv S c H H' ∧ H' q = some (.lst (ws.map V.str)) ∧ H' d = some (.dK es) ∧ rep1 H H' d l es ∧
      Paired (fun (p : Str × D) (q : Str × Fl × List (Str × Fl)) => p.1 = q.1 ∧ ls1 p.2 q.2.1 q.2.2) l s ∧ s.length = i ∧ ∀ j p, s[j]? = some p → okJ ws j p) ⟨[], [], [], _, _, rfl, m04, hq4, hd4, .nil, .nil, rfl, fun j p h => (nomatch h)⟩ (fun _ _ _ _ _ => trivial) (fun i x σ' H0 H' hi pv y => ?_) fun σ' H' pv => ?_
    · obtain ⟨es, l, s, o4, o5, rfl, mH, hqH, hdH, pr, prs, ls, hj⟩ := pv
      obtain ⟨rfl, rfl⟩ := y
      show gName 4 (V.int ((0 : Int) + (i : Int))) _ _ _
      rw [Int.zero_add]
      have i2 : i < 2 := by omega
      obtain ⟨nm, hnm⟩ : ∃ nm, ws[i]? = some nm := ⟨_, List.getElem?_eq_getElem (by omega)⟩
      obtain ⟨nm2, hnm2⟩ : ∃ nm, ws[i + 2]? = some nm := ⟨_, List.getElem?_eq_getElem (by omega)⟩
      have at1 : atI (ws.map V.str) (i : Int) = some (.str nm) := atI_nat (by rw [List.getElem?_map, hnm]; rfl)
      have at2 : atI (ws.map V.str) ((i : Int) + 2) = some (.str nm2) := by
        have := atI_nat (xs := ws.map V.str) (j := i + 2) (v := .str nm2) (by rw [List.getElem?_map, hnm2]; rfl)
        rw [← this]; congr 1
      intro e he
      have hen := mH.back he
      have eS := st.someS hen
      have ned : e ≠ d := fun z => by rw [z, hdH] at he; cases he
      have neq : q ≠ e := fun z => by rw [← z, hqH] at he; cases he
      refine Evl.q_cut (M := fun σ' H2 => ∃ (el : List (Str × D)) (ii : List (Str × Fl)) (ie : List (Key × V)), σ' = [some (.ref S), some (.int 2), some (.ref q), some (.ref d), some (.int i), some (.ref e)] ∧ Mv S c H' H2 ∧ H2 e = some (.dK ie) ∧ el.length ≤ 1 ∧
        Paired (fun (x : Str × D) (en : Key × V) => en.1 = Sum.inr x.1 ∧ Rep H2 4 (fun b => H b = none ∧ b ≠ d ∧ b ≠ e) x.2 en.2) el ie ∧ Paired (fun (p : Str × D) (q : Str × Fl) => p.1 = q.1 ∧ ls0 p.2 q.2) el ii ∧ (ii = [] ∨ ∃ x f, ii = [(x, f)] ∧ ws[i + 2]? = some x ∧ okFl f)) ?_ ?_
      · have m5 := Mv.new (o := .dK []) mH.z he
        refine ⟨_, rfl, S, c, 2, rfl, m5.z, by decide, by decide, fun H6 r6 m6 _ _ => ⟨rfl, _, rfl, ?_⟩⟩
        have he6 : H6 e = some (.dK []) := m6.fr e _ eS.1 eS.2 upd_same
        have m06 := m5.trans m6
        refine ite2 (fun _ => ?_) (fun _ => ?_)
        · intro p1 hp1
          have m7 := Mv.new (o := .dK []) m6.z hp1
          refine ⟨_, rfl, _, rfl, S, c, rfl, m7.z, fun H8 fq ff m8 hff okf => ?_⟩
          intro e2 he2
          have p1S := m6.z.someS hp1
          have hp8 : H8 p1 = some (.dK []) := m8.fr p1 _ p1S.1 p1S.2 upd_same
          refine ⟨Ex.new he2 _ _ hp8, [(Sum.inr "fields", .ref fq), (Sum.inr "inner", .ref e2)], rfl, (by show 2 ≤ 15; decide), ?_⟩
          rw [merge2 nFI]
          have mA : Mv S c H6 (upd (upd H8 e2 (.dK [])) p1 (.dK [(Sum.inr "fields", .ref fq), (Sum.inr "inner", .ref e2)])) := ((m7.trans m8).tx (Ex.new he2)).mut hp1
          have heA := mA.fr e _ eS.1 eS.2 he6
          have hqA := mA.fr q _ qS.1 qS.2 (m06.fr q _ qS.1 qS.2 hqH)
          have np12 : p1 ≠ e2 := fun z => by rw [← z, hp8] at he2; cases he2
          have npe : p1 ≠ e := fun z => by rw [z, he6] at hp1; cases hp1
          have npd : p1 ≠ d := fun z => by rw [z, m06.fr d _ dS.1 dS.2 hdH] at hp1; cases hp1
          have he28 : H6 e2 = none := (m7.trans m8).back he2
          have n2e : e2 ≠ e := fun z => by rw [z, he6] at he28; cases he28
          have n2d : e2 ≠ d := fun z => by rw [z, m06.fr d _ dS.1 dS.2 hdH] at he28; cases he28
          have hpA : (upd (upd H8 e2 (.dK [])) p1 (.dK [(Sum.inr "fields", .ref fq), (Sum.inr "inner", .ref e2)])) p1 = some (.dK [(Sum.inr "fields", .ref fq), (Sum.inr "inner", .ref e2)]) := upd_same
          have heA2 : (upd (upd H8 e2 (.dK [])) p1 (.dK [(Sum.inr "fields", .ref fq), (Sum.inr "inner", .ref e2)])) e2 = some (.dK []) := by rw [upd_ne (Ne.symm np12), upd_same]
          have hfA : Rep (upd (upd H8 e2 (.dK [])) p1 (.dK [(Sum.inr "fields", .ref fq), (Sum.inr "inner", .ref e2)])) 3 (fun b => (H b = none ∧ b ≠ d ∧ b ≠ e) ∧ b ≠ p1) (flD ff) (.ref fq) := by
            have h7 : ∀ {b : Addr} {o : HO}, H6 b = some o → (upd H6 p1 (.dK [])) b ≠ none := fun {b o} hb => by
              rw [Ex.new hp1 _ _ hb]; exact fun z => nomatch z
            refine rep_upd (Ex.new he2 _ _ hp8) (fun _ z => nomatch z) (fun b hb => hb.2) (rep_ex (Ex.new he2) (rep_S (fun b hb => ⟨⟨(mH.trans (m06.trans m7)).back hb, fun z => ?_, fun z => ?_⟩, fun z => ?_⟩) hff))
            · rw [z] at hb; exact h7 (m06.fr d _ dS.1 dS.2 hdH) hb
            · rw [z] at hb; exact h7 he6 hb
            · rw [z, upd_same] at hb; cases hb
          generalize (upd (upd H8 e2 (.dK [])) p1 (.dK [(Sum.inr "fields", .ref fq), (Sum.inr "inner", .ref e2)])) = HA at mA heA hqA hpA heA2 hfA ⊢
          refine ⟨_, rfl, _, rfl, _, rfl, _, _, rfl, rfl, q, _, _, _, rfl, rfl, Evl.sq_of hqA, at2, e, _, rfl, .inl ⟨[], Sum.inr nm2, heA, rfl, (by show 0 < sizeLine; decide), rfl⟩, ?_⟩
          have up : ∀ {n : Nat} {x : D} {v : V}, Rep HA n (fun b => H b = none ∧ b ≠ d ∧ b ≠ e) x v → Rep (upd HA e (.dK (putK [] (Sum.inr nm2) (.ref p1)))) n (fun b => H b = none ∧ b ≠ d ∧ b ≠ e) x v := fun h => rep_upd heA (fun _ z => nomatch z) (fun b z => z.2.2) h
          have hp1n : H p1 = none := (mH.trans m06).back hp1
          have he2n : H e2 = none := (mH.trans m06).back he28
          refine ⟨[(nm2, .dic [("fields", flD ff), ("inner", .dic [])])], [(nm2, ff)], _, rfl, (m06.trans mA).mut he, upd_same, Nat.le_refl _, ?_, ?_, .inr ⟨nm2, ff, rfl, hnm2, okf⟩⟩
          · rw [putK_new _ (by rfl)]
            refine .cons ⟨rfl, ?_⟩ .nil
            have := up (n := 4) (x := .dic [("fields", flD ff), ("inner", .dic [])]) (v := .ref p1) ⟨p1, _, rfl, ⟨hp1n, npd, npe⟩, hpA, (by show 2 ≤ 100000; decide), .cons ⟨rfl, hfA⟩ (.cons ⟨rfl, e2, [], rfl, ⟨⟨he2n, n2d, n2e⟩, Ne.symm np12⟩, heA2, Nat.zero_le _, .nil⟩ .nil)⟩
            rw [putK_new _ (by rfl)] at this
            exact this
          · exact .cons ⟨rfl, _, rfl, rfl, lk2a, lk2b⟩ .nil
        · exact ⟨[], [], [], rfl, m06, he6, Nat.zero_le _, .nil, .nil, .inl rfl⟩
      · rintro σ' H2 ⟨el, ii, ie, rfl, m2, he2, el1, pe, pls, hii⟩
        have hq2 := m2.fr q _ qS.1 qS.2 hqH
        have hd2 := m2.fr d _ dS.1 dS.2 hdH
        intro p1 hp1
        have m7 := Mv.new (o := .dK []) m2.z hp1
        refine ⟨_, rfl, _, rfl, S, c, rfl, m7.z, fun H8 fq ff m8 hff okf => ?_⟩
        have p1S := m2.z.someS hp1
        have hp8 : H8 p1 = some (.dK []) := m8.fr p1 _ p1S.1 p1S.2 upd_same
        refine ⟨_, rfl, hp8, [(Sum.inr "fields", .ref fq), (Sum.inr "inner", .ref e)], rfl, (by show 2 ≤ 15; decide), ?_⟩
        rw [merge2 nFI]
        have mA : Mv S c H2 (upd H8 p1 (.dK [(Sum.inr "fields", .ref fq), (Sum.inr "inner", .ref e)])) := (m7.trans m8).mut hp1
        have heA := mA.fr e _ eS.1 eS.2 he2
        have hqA := mA.fr q _ qS.1 qS.2 hq2
        have hdA := mA.fr d _ dS.1 dS.2 hd2
        have npe : p1 ≠ e := fun z => by rw [z, he2] at hp1; cases hp1
        have npd : p1 ≠ d := fun z => by rw [z, hd2] at hp1; cases hp1
        have hpA : (upd H8 p1 (.dK [(Sum.inr "fields", .ref fq), (Sum.inr "inner", .ref e)])) p1 = some (.dK [(Sum.inr "fields", .ref fq), (Sum.inr "inner", .ref e)]) := upd_same
        have hfA : Rep (upd H8 p1 (.dK [(Sum.inr "fields", .ref fq), (Sum.inr "inner", .ref e)])) 3 (fun b => (H b = none ∧ b ≠ d) ∧ b ≠ p1) (flD ff) (.ref fq) := by
          refine rep_upd hp8 (fun _ z => nomatch z) (fun b hb => hb.2) (rep_S (fun b hb => ⟨⟨(mH.trans (m2.trans m7)).back hb, fun z => ?_⟩, fun z => ?_⟩) hff)
          · rw [z, Ex.new hp1 _ _ hd2] at hb; cases hb
          · rw [z, upd_same] at hb; cases hb
        have peA := pair_imp pe fun a b h => (⟨h.1, rep_mv mA (fun z => (st.someS z.1.1).1 rfl) (fun z => (st.someS z.1.1).2 rfl) (rep_Sd (S' := fun b => (H b = none ∧ b ≠ d ∧ b ≠ e) ∧ b ≠ p1) (fun b hb hb2 => ⟨hb, fun z => hb2 (by rw [z]; exact hp1)⟩) h.2)⟩ : b.1 = Sum.inr a.1 ∧ _)
        have prA : rep1 H (upd H8 p1 (.dK [(Sum.inr "fields", .ref fq), (Sum.inr "inner", .ref e)])) d l es := pair_imp pr fun a b h => ⟨h.1, rep_mv (m2.trans mA) (fun z => (st.someS z.1).1 rfl) (fun z => (st.someS z.1).2 rfl) h.2⟩
        generalize (upd H8 p1 (.dK [(Sum.inr "fields", .ref fq), (Sum.inr "inner", .ref e)])) = HA at mA heA hqA hdA hpA hfA peA prA ⊢
        have lk : l.map (·.1) = ws.take i := by
          refine List.ext_getElem? fun j => ?_
          rw [List.getElem?_map, List.getElem?_take]
          by_cases jl : j < i
          · rw [if_pos jl]
            cases hs : s[j]? with
            | none => exact absurd (List.getElem?_eq_none_iff.mp hs) (by omega)
            | some p =>
              obtain ⟨x, hx, h1, _⟩ := pair_back prs hs
              rw [hx, (hj j p hs).1]
              exact congrArg some h1
          · rw [if_neg jl, List.getElem?_eq_none_iff.mpr (by rw [pair_len prs, ls]; omega)]; rfl
        have nv : valV es (Sum.inr nm : Key) = none := pair_no (F := fun x v => Rep HA 6 (fun b => H b = none ∧ b ≠ d) x v) prA (lk_none (by rw [lk]; exact not_take wnd hnm))
        have les : es.length ≤ 2 := by rw [← pair_len pr, pair_len prs]; omega
        refine ⟨_, rfl, _, rfl, _, rfl, q, _, _, _, rfl, rfl, Evl.sq_of hqA, at1, d, _, rfl, .inl ⟨es, Sum.inr nm, hdA, rfl, Evl.sz_lt (by omega), rfl⟩, ?_⟩
        have hp1n : H p1 = none := (mH.trans m2).back hp1
        have up : ∀ {n : Nat} {x : D} {v : V}, Rep HA n (fun b => H b = none ∧ b ≠ d) x v → Rep (upd HA d (.dK (putK es (Sum.inr nm) (.ref p1)))) n (fun b => H b = none ∧ b ≠ d) x v := fun h => rep_upd hdA (fun _ z => nomatch z) (fun b z => z.2) h
        refine ⟨es ++ [(Sum.inr nm, .ref p1)], l ++ [(nm, .dic [("fields", flD ff), ("inner", .dic el)])], s ++ [(nm, ff, ii)], _, _, rfl, (mH.trans (m2.trans mA)).mut hdn, by rw [upd_ne nqd]; exact hqA, by rw [upd_same, putK_new _ nv], ?_, ?_, by rw [List.length_append, ls]; rfl, fun j p hp => ?_⟩
        · refine pair_snoc (pair_imp prA fun a b h => ⟨h.1, up h.2⟩) ⟨rfl, up (n := 6) ⟨p1, _, rfl, ⟨hp1n, npd⟩, hpA, (by show 2 ≤ 100000; decide), .cons ⟨rfl, rep_up (rep_up hfA)⟩ (.cons ⟨rfl, e, ie, rfl, ⟨⟨hen, ned⟩, Ne.symm npe⟩, heA, by omega, pair_imp peA fun a b h => ⟨h.1, rep_S (fun b hb => ⟨⟨⟨hb.1.1, hb.1.2.1⟩, hb.2⟩, hb.1.2.2⟩) h.2⟩⟩ .nil)⟩⟩
        · exact pair_snoc prs ⟨rfl, _, el, rfl, rfl, lk2a, lk2b, pls⟩
        · by_cases jl : j < s.length
          · rw [List.getElem?_append_left jl] at hp
            exact hj j p hp
          · rw [List.getElem?_append_right (by omega)] at hp
            have ej : j = i := by
              cases hc : j - s.length with
              | zero => omega
              | succ m => rw [hc] at hp; cases hp
            subst ej
            rw [ls, Nat.sub_self] at hp
            cases hp
            exact ⟨hnm, okf, hii⟩
    · obtain ⟨es, l, s, o4, o5, rfl, mH, hqH, hdH, pr, prs, ls, hj⟩ := pv
      have l2 : s.length ≤ 2 := by omega
      exact Evl.s_ret (Evl.ev_var rfl) fun H7 e7 => k H7 d (.dic l) s (mH.tx e7) (rep_ex e7 ⟨d, es, rfl, hdn, hdH, by rw [pair_len prs]; omega, pr⟩) ⟨l, rfl, prs⟩ (okSh_of wnd l4 wok l2 hj)
end
end Pk

namespace Pk
open PySem PySem.Spec PyProof.Rows L2 Ssb
open Evl (Ex Ev EvT EvL EvA EvU)
/-! ### data as a tree: parts at places of their own -/
def Tr (R : (Addr → Prop) → D → V → Prop) (S : Addr → Prop) (a : Addr) (ix : Addr → Nat) (l : List D) (xs : List V) : Prop := l.length = xs.length ∧ ∀ (i : Nat) (d : D) (x : V), l[i]? = some d → xs[i]? = some x → R (fun b => (S b ∧ b ≠ a) ∧ ix b = i) d x
def RepT (H : Hp) : Nat → (Addr → Prop) → D → V → Prop
  | 0, _, _, _ => False
  | _ + 1, _, .non, v => v = .non
  | _ + 1, _, .bl b, v => v = .bl b
  | _ + 1, _, .int i, v => v = .int i
  | _ + 1, _, .str s, v => v = .str s
  | n + 1, S, .lst l, v => ∃ a xs ix, v = .ref a ∧ S a ∧ H a = some (.lst xs) ∧ l.length ≤ 100000 ∧ Tr (fun S d v => RepT H n S d v) S a ix l xs
  | _ + 1, _, .tup _, _ => False
  | n + 1, S, .dic l, v => ∃ a es ix, v = .ref a ∧ S a ∧ H a = some (.dK es) ∧ l.length ≤ 100000 ∧ es.map (·.1) = l.map (fun q => (Sum.inr q.1 : Key)) ∧ Tr (fun S d v => RepT H n S d v) S a ix (l.map (·.2)) (es.map (·.2))
theorem tr_imp {R R' : (Addr → Prop) → D → V → Prop} {S S' : Addr → Prop} {a : Addr} {ix : Addr → Nat} {l : List D} {xs : List V} (h : ∀ i d x, R (fun b => (S b ∧ b ≠ a) ∧ ix b = i) d x → R' (fun b => (S' b ∧ b ≠ a) ∧ ix b = i) d x) (t : Tr R S a ix l xs) : Tr R' S' a ix l xs := ⟨t.1, fun i d x h1 h2 => h i d x (t.2 i d x h1 h2)⟩
theorem rt_to {H H' : Hp} : ∀ {n : Nat} {S : Addr → Prop} {d : D} {v : V}, (∀ b o, S b → H b = some o → H' b = some o) → RepT H n S d v → RepT H' n S d v
  | 0, _, _, _, _, h => h.elim
  | n + 1, S, d, v, k, h => by
    cases d with
    | non => exact h
    | bl b => exact h
    | int i => exact h
    | str s => exact h
    | tup l => exact h.elim
    | lst l =>
      obtain ⟨a, xs, ix, e, s, ha, hl, p⟩ := h
      exact ⟨a, xs, ix, e, s, k a _ s ha, hl, tr_imp (fun i d x r => rt_to (fun b o hb h => k b o hb.1.1 h) r) p⟩
    | dic l =>
      obtain ⟨a, es, ix, e, s, ha, hl, hk, p⟩ := h
      exact ⟨a, es, ix, e, s, k a _ s ha, hl, hk, tr_imp (fun i d x r => rt_to (fun b o hb h => k b o hb.1.1 h) r) p⟩
theorem rt_ex {H H' : Hp} {n : Nat} {S : Addr → Prop} {d : D} {v : V} (e : Ex H H') (h : RepT H n S d v) : RepT H' n S d v := rt_to (fun b o _ hb => e b o hb) h
theorem rt_S {H : Hp} : ∀ {n : Nat} {S S' : Addr → Prop} {d : D} {v : V}, (∀ b, S b → S' b) → RepT H n S d v → RepT H n S' d v
  | 0, _, _, _, _, _, h => h.elim
  | n + 1, S, S', d, v, k, h => by
    cases d with
    | non => exact h
    | bl b => exact h
    | int i => exact h
    | str s => exact h
    | tup l => exact h.elim
    | lst l =>
      obtain ⟨a, xs, ix, e, s, ha, hl, p⟩ := h
      exact ⟨a, xs, ix, e, k a s, ha, hl, tr_imp (fun i d x r => rt_S (fun b hb => ⟨⟨k b hb.1.1, hb.1.2⟩, hb.2⟩) r) p⟩
    | dic l =>
      obtain ⟨a, es, ix, e, s, ha, hl, hk, p⟩ := h
      exact ⟨a, es, ix, e, k a s, ha, hl, hk, tr_imp (fun i d x r => rt_S (fun b hb => ⟨⟨k b hb.1.1, hb.1.2⟩, hb.2⟩) r) p⟩
theorem rt_dom {H : Hp} : ∀ {n : Nat} {S : Addr → Prop} {d : D} {v : V}, RepT H n S d v → RepT H n (fun b => S b ∧ H b ≠ none) d v
  | 0, _, _, _, h => h.elim
  | n + 1, S, d, v, h => by
    cases d with
    | non => exact h
    | bl b => exact h
    | int i => exact h
    | str s => exact h
    | tup l => exact h.elim
    | lst l =>
      obtain ⟨a, xs, ix, e, s, ha, hl, p⟩ := h
      exact ⟨a, xs, ix, e, ⟨s, by rw [ha]; exact fun z => nomatch z⟩, ha, hl, tr_imp (fun i d x r => rt_S (fun b hb => ⟨⟨⟨hb.1.1.1, hb.2⟩, hb.1.1.2⟩, hb.1.2⟩) (rt_dom r)) p⟩
    | dic l =>
      obtain ⟨a, es, ix, e, s, ha, hl, hk, p⟩ := h
      exact ⟨a, es, ix, e, ⟨s, by rw [ha]; exact fun z => nomatch z⟩, ha, hl, hk, tr_imp (fun i d x r => rt_S (fun b hb => ⟨⟨⟨hb.1.1.1, hb.2⟩, hb.1.1.2⟩, hb.1.2⟩) (rt_dom r)) p⟩
theorem rt_Sd {H : Hp} {n : Nat} {S S' : Addr → Prop} {d : D} {v : V} (k : ∀ b, S b → H b ≠ none → S' b) (h : RepT H n S d v) : RepT H n S' d v := rt_S (fun b z => k b z.1 z.2) (rt_dom h)
theorem rt_up {H : Hp} : ∀ {n : Nat} {S : Addr → Prop} {d : D} {v : V}, RepT H n S d v → RepT H (n + 1) S d v
  | 0, _, _, _, h => h.elim
  | n + 1, S, d, v, h => by
    cases d with
    | non => exact h
    | bl b => exact h
    | int i => exact h
    | str s => exact h
    | tup l => exact h.elim
    | lst l =>
      obtain ⟨a, xs, ix, e, s, ha, hl, p⟩ := h
      exact ⟨a, xs, ix, e, s, ha, hl, tr_imp (fun i d x r => rt_up r) p⟩
    | dic l =>
      obtain ⟨a, es, ix, e, s, ha, hl, hk, p⟩ := h
      exact ⟨a, es, ix, e, s, ha, hl, hk, tr_imp (fun i d x r => rt_up r) p⟩
theorem pair_of {α β : Type} {F : α → β → Prop} : ∀ {l : List α} {m : List β}, l.length = m.length → (∀ (i : Nat) (a : α) (b : β), l[i]? = some a → m[i]? = some b → F a b) → Paired F l m
  | [], [], _, _ => .nil
  | [], _ :: _, h, _ => nomatch h
  | _ :: _, [], h, _ => nomatch h
  | a :: l, b :: m, h, k => .cons (k 0 a b rfl rfl) (pair_of (Nat.succ.inj h) fun i x y h1 h2 => k (i + 1) x y h1 h2)
theorem rt_rep {H : Hp} : ∀ {n : Nat} {S : Addr → Prop} {d : D} {v : V}, RepT H n S d v → Rep H n S d v
  | 0, _, _, _, h => h.elim
  | n + 1, S, d, v, h => by
    cases d with
    | non => exact h
    | bl b => exact h
    | int i => exact h
    | str s => exact h
    | tup l => exact h.elim
    | lst l =>
      obtain ⟨a, xs, ix, e, s, ha, hl, p⟩ := h
      exact ⟨a, xs, e, s, ha, hl, pair_of p.1 fun i d x h1 h2 => rep_S (fun b hb => hb.1.1) (rt_rep (p.2 i d x h1 h2))⟩
    | dic l =>
      obtain ⟨a, es, ix, e, s, ha, hl, hk, p⟩ := h
      have le : l.length = es.length := by have := p.1; rw [List.length_map, List.length_map] at this; exact this
      refine ⟨a, es, e, s, ha, hl, pair_of le fun i q en h1 h2 => ⟨?_, rep_S (fun b hb => hb.1) (rt_rep (p.2 i q.2 en.2 (by rw [List.getElem?_map, h1]; rfl) (by rw [List.getElem?_map, h2]; rfl)))⟩⟩
      have := congrArg (fun l => l[i]?) hk
      simp only [List.getElem?_map, h1, h2] at this
      exact Option.some.inj this
/-- one more part, younger than Hk -/
theorem tr_snoc {R : (Addr → Prop) → D → V → Prop} {S : Addr → Prop} {a : Addr} {ix : Addr → Nat} {l : List D} {xs : List V} {Hk : Hp} {d : D} {x : V} (mono : ∀ S S' d x, (∀ b, S b → S' b) → R S d x → R S' d x)
    (t : Tr R (fun b => S b ∧ Hk b ≠ none) a ix l xs) (h : R (fun b => (S b ∧ b ≠ a) ∧ Hk b = none) d x) : ∃ ix', Tr R S a ix' (l ++ [d]) (xs ++ [x]) := by
  refine ⟨fun b => if (Hk b).isNone = true then l.length else ix b, by rw [List.length_append, List.length_append, t.1]; rfl, fun i d' x' h1 h2 => ?_⟩
  by_cases hi : i < l.length
  · rw [List.getElem?_append_left hi] at h1
    rw [List.getElem?_append_left (by rw [← t.1]; exact hi)] at h2
    refine mono _ _ _ _ (fun b hb => ⟨⟨hb.1.1.1, hb.1.2⟩, ?_⟩) (t.2 i d' x' h1 h2)
    have : ¬ (Hk b).isNone = true := by
      cases e : Hk b with
      | none => exact absurd e hb.1.1.2
      | some o => exact fun z => nomatch z
    show (if (Hk b).isNone = true then l.length else ix b) = i
    rw [if_neg this]; exact hb.2
  · rw [List.getElem?_append_right (by omega)] at h1
    rw [List.getElem?_append_right (by rw [← t.1]; omega)] at h2
    have ei : i = l.length := by
      cases hc : i - l.length with
      | zero => omega
      | succ m => rw [hc] at h1; cases h1
    subst ei
    rw [Nat.sub_self] at h1
    rw [← t.1, Nat.sub_self] at h2
    cases h1
    cases h2
    refine mono _ _ _ _ (fun b hb => ⟨hb.1, ?_⟩) h
    show (if (Hk b).isNone = true then l.length else ix b) = l.length
    rw [if_pos (by rw [hb.2]; rfl)]
theorem rt_mv {S c : Addr} {H H' : Hp} (m : Mv S c H H') {n : Nat} {P : Addr → Prop} {d : D} {v : V} (n1 : ¬ P S) (n2 : ¬ P c) (h : RepT H n P d v) : RepT H' n P d v :=
  rt_to (fun b o hp hb => m.fr b o (fun e => n1 (by rw [← e]; exact hp)) (fun e => n2 (by rw [← e]; exact hp)) hb) h
theorem rt_upd {H : Hp} {n : Nat} {S : Addr → Prop} {d : D} {v : V} {a : Addr} {u : HO} (hS : ∀ b, S b → b ≠ a) (h : RepT H n S d v) : RepT (upd H a u) n S d v :=
  rt_to (fun b o hb h => by rw [upd_ne (hS b hb)]; exact h) h
/-! ### generated rows -/
def upS (i : List (Str × Fl)) : Sh := i.map fun q => (q.1, q.2, [])
def rowD (id : Int) (fs ls : List (Str × D)) : D := .dic [("id", .int id), ("fields", .dic fs), ("lists", .dic ls)]
def okF2 (f : Fl) (fs : List (Str × D)) : Prop := okFs f fs ∧ (fs.map (·.1)).Nodup ∧ ∀ p ∈ fs, ∃ x, p.2 = .str x
def gR : Nat → Fl → List (Str × Fl) → D → Prop
  | 0, _, _, _ => False
  | m + 1, f, i, d => ∃ (rs : List D) (ids : List Int), d = .lst rs ∧ ids.Nodup ∧ rs.length ≤ 4 ∧ Paired (fun (row : D) (id : Int) => ∃ fs ls, row = rowD id fs ls ∧ 0 ≤ id ∧ id ≤ 1000000 ∧ okF2 f fs ∧ Paired (fun (p : Str × D) (q : Str × Fl × List (Str × Fl)) => p.1 = q.1 ∧ gR m q.2.1 q.2.2 p.2) ls (upS i)) rs ids
def gRow (m : Nat) (f : Fl) (i : List (Str × Fl)) (row : D) (id : Int) : Prop := ∃ fs ls, row = rowD id fs ls ∧ 0 ≤ id ∧ id ≤ 1000000 ∧ okF2 f fs ∧ Paired (fun (p : Str × D) (q : Str × Fl × List (Str × Fl)) => p.1 = q.1 ∧ gR m q.2.1 q.2.2 p.2) ls (upS i)
theorem lk_of_mem {α : Type} : ∀ {l : List (Str × α)} {k : Str} {x : α}, (l.map (·.1)).Nodup → (k, x) ∈ l → l.lookup k = some x
  | (j, d) :: l, k, x, nd, h => by
    rw [List.map_cons, List.nodup_cons] at nd
    rw [lk_cons]
    rcases List.mem_cons.mp h with h | h
    · cases h; rw [if_pos rfl]
    · rw [if_neg (fun e => nd.1 (by rw [← e]; exact List.mem_map.mpr ⟨_, h, rfl⟩))]
      exact lk_of_mem nd.2 h
theorem okF2_of {f : Fl} {fs : List (Str × D)} {ys : List Str} (hf : (f.map (·.1)).Nodup) (perm : ys.Perm (f.map (·.1))) (hk : fs.map (·.1) = ys) (hv : ∀ p ∈ fs, ∃ x ws, p.2 = .str x ∧ (p.1, ws) ∈ f ∧ x ∈ ws) : okF2 f fs := by
  have nd : (fs.map (·.1)).Nodup := by rw [hk]; exact perm.nodup_iff.mpr hf
  refine ⟨⟨?_, fun p hp => ?_⟩, nd, fun p hp => ?_⟩
  · have := perm.length_eq
    rw [← hk, List.length_map, List.length_map] at this
    exact this
  · have : p.1 ∈ fs.map (·.1) := by rw [hk]; exact perm.mem_iff.mpr (List.mem_map.mpr ⟨p, hp, rfl⟩)
    obtain ⟨e, he, e1⟩ := List.mem_map.mp this
    obtain ⟨x, ws, hx, hm, hw⟩ := hv e he
    refine ⟨x, lk_of_mem nd (by rw [← e1, ← hx]; exact he), ?_⟩
    have h1 := lk_of_mem hf hm
    have h2 := lk_of_mem hf (show (e.1, p.2) ∈ f by rw [e1]; exact hp)
    rw [h1] at h2
    cases h2
    exact hw
  · obtain ⟨x, ws, hx, _⟩ := hv p hp
    exact ⟨x, hx⟩
end Pk

namespace Pk
open PySem PySem.Spec PyProof.Rows L2 Ssb
open Evl (Ex Ev EvT EvL EvA EvU)
def rSortDK : List V → Hp → VK → Prop := fun xs H Q => ∃ (a : Addr) (kvs : List (Key × V)) (ks : List Str), xs = [.ref a] ∧ Rd H a (.dK kvs) ∧ kvs.map (·.1) = ks.map Sum.inr ∧ ks.length < 64 ∧ ∀ ys p, ys.Perm ks → sortedS ys = true → H p = none → Q (.ref p) (upd H p (.lst (ys.map V.str)))
theorem el_lcM {K : PySem.W.Frag} {σ : L2.St} {H : Hp} {te tl : TE} {vs : List Nat} {j : Nat} {a : Addr} {xs zs : List V} (h : Ev tl σ H (.ref a)) (hx : SqL K H a xs) (hz : xs.length ≤ 100000) (hl : zs.length = xs.length) (hw : ∀ x, wipe ((wipe σ vs).set j (some x)) vs = wipe σ vs)
    (he : ∀ (i : Nat) (x z : V), xs[i]? = some x → zs[i]? = some z → ∀ H2, Ex H H2 → Ev te ((wipe σ vs).set j (some x)) H2 z) : EvL (tLc (iList K tl) (gName j) tYes te vs) σ H zs := by
  have := el_lcA (K := K) (te := te) (vs := vs) (j := j) (f := fun i => (zs[i]?).getD .non) h hx hz hw fun i x hi H2 e2 => ?_
  · rw [map_range (g := _root_.id) hl (fun i a ha => by rw [ha]; rfl), List.map_id] at this
    exact this
  · have hj : i < zs.length := by rw [hl]; exact (List.getElem?_eq_some_iff.mp hi).1
    rw [List.getElem?_eq_getElem hj]
    exact he i x _ hi (List.getElem?_eq_getElem hj) H2 e2
theorem StAt.upd {S c p : Addr} {H : Hp} {o : HO} (n : p ≠ S ∧ p ≠ c) (h : StAt H S c) : StAt (L2.upd H p o) S c := by
  obtain ⟨ne, k, cs, h1, h2, h3⟩ := h
  exact ⟨ne, k, cs, by rw [upd_ne n.1.symm]; exact h1, by rw [upd_ne n.2.symm]; exact h2, h3⟩
theorem nIF : ¬ (("id" : Str) = "fields") := by decide +kernel
theorem nIL : ¬ (("id" : Str) = "lists") := by decide +kernel
theorem nFL : ¬ (("fields" : Str) = "lists") := by decide +kernel
theorem lkR1 {d1 d2 d3 : D} : List.lookup ("id" : Str) [(("id" : Str), d1), (("fields" : Str), d2), (("lists" : Str), d3)] = some d1 := by rw [lk_cons, if_pos rfl]
theorem lkR2 {d1 d2 d3 : D} : List.lookup ("fields" : Str) [(("id" : Str), d1), (("fields" : Str), d2), (("lists" : Str), d3)] = some d2 := by rw [lk_cons, if_neg (fun e => nIF e.symm), lk_cons, if_pos rfl]
theorem lkR3 {d1 d2 d3 : D} : List.lookup ("lists" : Str) [(("id" : Str), d1), (("fields" : Str), d2), (("lists" : Str), d3)] = some d3 := by rw [lk_cons, if_neg (fun e => nIL e.symm), lk_cons, if_neg (fun e => nFL e.symm), lk_cons, if_pos rfl]
theorem vV_no : ∀ {es : List (Key × V)} {k : Key}, k ∉ es.map (·.1) → valV es k = none
  | [], _, _ => rfl
  | e :: es, k, h => by
    rw [vV_cons, if_neg (fun z => h (by rw [← z]; exact List.mem_cons_self))]
    exact vV_no fun z => h (List.mem_cons_of_mem _ z)
theorem inr_not {ks : List Str} {k : Str} (h : k ∉ ks) : (Sum.inr k : Key) ∉ ks.map Sum.inr := fun hm => by
  obtain ⟨x, hx, e⟩ := List.mem_map.mp hm
  exact h (by rw [← Sum.inr.inj e]; exact hx)
theorem spare_int (ids : List Int) : ∃ j : Int, (Evl.given ((((ids.map V.int).length : Int) + 1).toNat) (fun j : Nat => !inV (V.int (j : Int)) (ids.map V.int)) (fun j : Nat => V.int (j : Int)))[0]? = some (.int j) ∧ 0 ≤ j ∧ j ≤ (ids.length : Int) ∧ j ∉ ids := by
  have en : (((ids.map V.int).length : Int) + 1).toNat = ids.length + 1 := by rw [List.length_map]; omega
  rw [en]
  unfold Evl.given
  cases hc : (List.range (ids.length + 1)).filter (fun j : Nat => !inV (V.int (j : Int)) (ids.map V.int)) with
  | nil =>
    exfalso
    have sub : ∀ x ∈ (List.range (ids.length + 1)).map (fun j : Nat => (j : Int)), x ∈ ids := fun x hx => by
      obtain ⟨j, hj, rfl⟩ := List.mem_map.mp hx
      have := List.filter_eq_nil_iff.mp hc j hj
      exact inV_ints.mp (by simpa using this)
    have nd : ((List.range (ids.length + 1)).map (fun j : Nat => (j : Int))).Nodup := List.Pairwise.map _ (fun a b h z => h (Int.ofNat.inj z)) List.nodup_range
    have := pigeon nd sub
    rw [List.length_map, List.length_range] at this
    omega
  | cons z zs =>
    have hz : z ∈ (List.range (ids.length + 1)).filter (fun j : Nat => !inV (V.int (j : Int)) (ids.map V.int)) := by rw [hc]; exact List.mem_cons_self
    obtain ⟨h1, h2⟩ := List.mem_filter.mp hz
    have h3 := List.mem_range.mp h1
    refine ⟨(z : Int), rfl, by omega, by omega, fun hm => ?_⟩
    rw [inV_ints.mpr hm] at h2
    cases h2
section
variable {P : Program} {w : World} {K : PySem.W.Frag} {mg : Str → Option Value} {base : Heap} {C_Shape C_InvalidData C_InvalidShape C_StayError : Addr}
def spLr (m : Nat) : Sp := fun vs H Q _ => ∃ (S c : Addr) (v : V) (n : Nat) (P : Addr → Prop) (d : D) (f : Fl) (i : List (Str × Fl)), vs = [.ref S, v, .int 4] ∧ StAt H S c ∧ Rep H n P d v ∧ ¬ P S ∧ ¬ P c ∧ ls1 d f i ∧ okFl f ∧ (i.map (·.1)).Nodup ∧ i.length ≤ 60 ∧ (∀ q ∈ i, okFl q.2) ∧ (m ≤ 1 → i = []) ∧ 1 ≤ m ∧
  ∀ H' q rd, Mv S c H H' → RepT H' (3 * m + 1) (fun b => H b = none) rd (.ref q) → gR m f i rd → Q (.ref q) H'
theorem ok__law_rows0 (T : Txt K mg C_Shape C_InvalidData C_InvalidShape C_StayError) (R : Prg K mg C_Shape C_InvalidData C_InvalidShape C_StayError) : ∃ f fd, Fn P w K mg base "_law_rows" 1 ["_law_stream_here", "_law_described", "_law_most"] (spLr 0) f fd := by
  obtain ⟨f, fd, at_, F, kp⟩ := R._law_rows
  refine ⟨f, fd, F.ok sc__law_rows (fun vs H Q E h => ?_) (fun cdv A outer s H vs Q E hr h => ?_), at_, kp, F.binds (fun _ _ _ _ _ _ us hl => match us, hl with | [_, _, _], _ => rfl)⟩
  · obtain ⟨S, c, v, n, P, d, f, i, rfl, _⟩ := h; rfl
  · obtain ⟨S, c, v, n, P, d, f, i, rfl, _, _, _, _, _, _, _, _, _, _, h, _⟩ := h; exact absurd h (by decide)
theorem ok__law_rows (T : Txt K mg C_Shape C_InvalidData C_InvalidShape C_StayError) (R : Prg K mg C_Shape C_InvalidData C_InvalidShape C_StayError) {m lv : Nat} (hlv : 1 ≤ lv) (G0 : ∃ f fd, Fn P w K mg base "_law_rows" lv ["_law_stream_here", "_law_described", "_law_most"] (spLr m) f fd) : ∃ f fd, Fn P w K mg base "_law_rows" (lv + 1) ["_law_stream_here", "_law_described", "_law_most"] (spLr (m + 1)) f fd := by
  obtain ⟨_, _, G__law_rows⟩ := G0
  obtain ⟨_, _, G__law_draw⟩ := ok__law_draw (P := P) (w := w) (base := base) T R
  obtain ⟨f, fd, at_, F, kp⟩ := R._law_rows
  refine ⟨f, fd, F.ok sc__law_rows (fun vs H Q E h => ?_) (fun cdv A outer s H vs Q E hr h => ?_), at_, kp, F.binds (fun _ _ _ _ _ _ us hl => match us, hl with | [_, _, _], _ => rfl)⟩
  · obtain ⟨S, c, v, n, P, d, f, i, rfl, _⟩ := h; rfl
  · obtain ⟨S, c, v, n, PP, dd, fl, ii, rfl, st, hv, nS, nc, ⟨dl, de, rfl, _, dlf, dli, pls⟩, okf, ind, i60, iok, hm0, _, k⟩ := h
    cases n with
    | zero => exact hv.elim
    | succ n =>
    obtain ⟨dv, des, rfl, Pdv, hdv, _, dpr⟩ := id hv
    obtain ⟨vf, hvf, hrf⟩ := rep_entry dpr dlf
    obtain ⟨vi, hvi, hri⟩ := rep_entry dpr dli
    cases n with
    | zero => exact hrf.elim
    | succ n =>
    obtain ⟨fa, fes, rfl, Pfa, hfa, _, fpr⟩ := id hrf
    obtain ⟨ia, ies, rfl, Pia, hia, _, ipr⟩ := id hri
    have dvS : dv ≠ S ∧ dv ≠ c := ⟨fun e => nS (e ▸ Pdv), fun e => nc (e ▸ Pdv)⟩
    have faS : fa ≠ S ∧ fa ≠ c := ⟨fun e => nS (e ▸ Pfa.1), fun e => nc (e ▸ Pfa.1)⟩
    have iaS : ia ≠ S ∧ ia ≠ c := ⟨fun e => nS (e ▸ Pia.1), fun e => nc (e ▸ Pia.1)⟩
    refine ⟨_, (pss_cons (ps_set (i := 3) sc__law_rows.nd rfl (Or.inl rfl) (pe_lst pa_nil))
  (pss_cons (ps_for PassesOwn.never rfl (pi_range1 (by rfl) T.range (pa_cons (pcl G__law_draw hr (pa_cons (pv 0) (pa_cons (pe_op op_add (pv 2) pe_int) pa_nil))) pa_nil)) (pg_name (i := 4) sc__law_rows.nd rfl (Or.inl rfl))
    (pss_cons (ps_set (i := 5) sc__law_rows.nd rfl (Or.inr rfl) (pe_lc (own := [("_law_row", 11)]) rfl sc__law_rows.nd (show PI _ _ _ (iList K _) from pi_list (pv 3)) (blkOk_by (own := [("_law_row", 11)]) (N := ["_law_stream_here", "_law_described", "_law_most", "_law_rows_here", "_law_k", "_law_taken", "_law_number", "_law_fields_here", "_law_name", "_law_words", "_law_lists_here", "_law_row", "_law_spare"]) (sc := defScope s__law_rows) (by decide +kernel)) (fun _ _ _ _ _ => (pg_name (i := 11) sc__law_rows.nd rfl (Or.inl rfl))) (fun _ _ _ _ _ => pts_nil) (fun _ _ _ _ _ => (pe_dget (hu_of hr) (pv 11) pe_str (fun _ _ => rfl)))))
  (pss_cons (ps_set (i := 6) sc__law_rows.nd rfl (Or.inl rfl) (pcl G__law_draw hr (pa_cons (pv 0) (pa_cons pe_int pa_nil))))
  (Evl.pss_cut (ps_if (pt_cmpR op_eq (pcl G__law_draw hr (pa_cons (pv 0) (pa_cons pe_int pa_nil))) pe_int (nomark _)) (pss_one (ps_set (i := 6) sc__law_rows.nd rfl (Or.inl rfl) (pcl G__law_draw hr (pa_cons (pv 0) (pa_cons pe_int pa_nil))))) pss_nil)
  (Evl.pss_cut (ps_if (pt_cmpR (r := rIn K false) op_in_seq (pv 6) (pv 5) (by rfl)) (pss_one (ps_set (i := 6) sc__law_rows.nd rfl (Or.inl rfl) (pe_ix (r := rIxL K) ix_list (pe_lc (own := [("_law_spare", 12)]) rfl sc__law_rows.nd (pi_range1 (by rfl) T.range (pa_cons (pe_op op_add (pe_callB (r := rLenA K) call_len (by rfl) T.len (by decide +kernel) (pa_cons (pv 5) pa_nil)) pe_int) pa_nil)) (blkOk_by (own := [("_law_spare", 12)]) (N := ["_law_stream_here", "_law_described", "_law_most", "_law_rows_here", "_law_k", "_law_taken", "_law_number", "_law_fields_here", "_law_name", "_law_words", "_law_lists_here", "_law_row", "_law_spare"]) (sc := defScope s__law_rows) (by decide +kernel)) (fun _ _ _ _ _ => (pg_name (i := 12) sc__law_rows.nd rfl (Or.inl rfl))) (fun _ _ _ _ _ => (pts_one (pt_cmpR (r := rIn K true) op_notIn_seq (pv 12) (pv 5) (by rfl)))) (fun _ _ _ _ _ => (pv 12))) pe_int (fun _ _ => rfl)))) pss_nil)
  (pss_cons (ps_set (i := 7) sc__law_rows.nd rfl (Or.inl rfl) pe_dnewK)
  (pss_cons (ps_for PassesOwn.never rfl (show PI _ _ _ (iList K _) from pi_list (pe_callB (r := rSortDK) (call_sortedD rfl) (by rfl) T.sorted (by decide +kernel) (pa_cons (pe_dget (hu_of hr) (pv 1) pe_str (fun _ _ => rfl)) pa_nil))) (pg_name (i := 8) sc__law_rows.nd rfl (Or.inl rfl))
    (pss_cons (ps_set (i := 9) sc__law_rows.nd rfl (Or.inl rfl) (pe_dget (hu_of hr) (pe_dget (hu_of hr) (pv 1) pe_str (fun _ _ => rfl)) (pv 8) (fun _ _ => rfl)))
  (pss_one (ps_dput (hu_of hr) (pv 7) (pv 8) (pe_ix (r := rIxT K) ix_tup (pv 9) (pcl G__law_draw hr (pa_cons (pv 0) (pa_cons (pe_callB (r := rLenA K) call_len (by rfl) T.len (by decide +kernel) (pa_cons (pv 9) pa_nil)) pa_nil))) (fun _ _ => rfl)) rfl))))
  (pss_cons (ps_set (i := 10) sc__law_rows.nd rfl (Or.inl rfl) pe_dnewK)
  (pss_cons (ps_lock (ps_for PassesOwn.never rfl (pi_keys (pe_dget (hu_of hr) (pv 1) pe_str (fun _ _ => rfl))) (pg_name (i := 8) sc__law_rows.nd rfl (Or.inl rfl))
    (pss_one (ps_dput (hu_of hr) (pv 10) (pv 8) (pcl G__law_rows hr (pa_cons (pv 0) (pa_cons (pe_dget (hu_of hr) (pe_dget (hu_of hr) (pv 1) pe_str (fun _ _ => rfl)) (pv 8) (fun _ _ => rfl)) (pa_cons (pv 2) pa_nil)))) rfl))))
  (pss_one (ps_expr (show PE _ _ (tBM K _ _ _ _) from pe_bm PySem.F.plainAttrs_list PySem.F.slot_list_append PySem.F.type_list_append mt_append (pv 3) (pa_cons (pe_disp (pps_cons pe_str (pv 6) (pps_cons pe_str (pv 7) (pps_cons pe_str (pv 10) pps_nil))) (by rfl) (by rfl) (fun z => by cases z) (by decide)) pa_nil)))))))))))))
  (pss_one (ps_ret (pv 3))))), ?_⟩
    refine Evl.q_asgL (xs := []) (Evl.el_lst Evl.ea_nil (Nat.zero_le _)) fun q H1 hq e1 hq1 => ?_
    have qS := st.someS hq
    have m01 := Mv.ex st e1
    refine ⟨_, rfl, _, rfl, _, _, rfl, rfl, S, c, 5, rfl, m01.z, by decide, by decide, fun H2 r m2 r0 r1 => ⟨r, rfl, by omega, by omega, ?_⟩⟩
    refine for_it walk_range (fun i σ' H' => ∃ (xs : List V) (rs : List D) (ids : List Int) (ix : Addr → Nat) (o4 o5 o6 o7 o8 o9 o10 : Option V), σ' = [some (.ref S), some (.ref dv), some (.int 4), some (.ref q), o4, o5, o6, o7, o8, o9, o10, none, none] ∧ Mv S c H H' ∧ H' q = some (.lst xs) ∧
      Tr (fun S d v => RepT H' (3 * m + 3) S d v) (fun b => H b = none) q ix rs xs ∧ ids.Nodup ∧ rs.length = i ∧ Paired (gRow m fl ii) rs ids) ⟨[], [], [], fun _ => 0, _, _, _, _, _, _, _, rfl, m01.trans m2, m2.fr q _ qS.1 qS.2 hq1, ⟨rfl, fun i d x h => (nomatch h)⟩, List.nodup_nil, rfl, .nil⟩ (fun _ _ _ _ _ => trivial) (fun i x σ' H0 H' hi pv y => ?_) fun σ' H' pv => ?_
    · obtain ⟨xs, rs, ids, ix, o4, o5, o6, o7, o8, o9, o10, rfl, mH, hqH, tr, ndi, lrs, prs⟩ := pv
      obtain ⟨rfl, rfl⟩ := y
      show gName 4 (V.int ((0 : Int) + (i : Int))) _ _ _
      rw [Int.zero_add]
      have i6 : i ≤ 4 := by omega
      have lids : ids.length = i := by rw [← pair_len prs]; exact lrs
      have lxs : xs.length = i := by rw [← tr.1]; exact lrs
      -- taken
      refine Evl.q_asgL (xs := ids.map V.int) (el_lcM (Evl.ev_var rfl) (Evl.sq_of hqH) (by omega) (by rw [List.length_map]; omega) (fun _ => rfl) fun j x z hx hz H3 e3 => ?_) fun t5 H3 ht5 e3 ht53 => ?_
      · rw [List.getElem?_map] at hz
        cases hid : ids[j]? with
        | none => rw [hid] at hz; cases hz
        | some id =>
        rw [hid] at hz
        cases hz
        obtain ⟨row, hrow, fs, ls, rfl, _⟩ := pair_back prs hid
        have hr0 := rt_rep (tr.2 j _ x hrow hx)
        obtain ⟨ra, res, rfl, _, hra, _, rpr⟩ := hr0
        obtain ⟨vid, hvid, hrid⟩ := rep_entry rpr lkR1
        have e : vid = .int id := hrid
        subst e
        exact ev_get (Evl.ev_var rfl) Evl.ev_c (.inl (e3 _ _ hra)) hvid
      have t5S : t5 ≠ S ∧ t5 ≠ c := mH.z.someS ht5
      have m3 : Mv S c H' H3 := .ex mH.z e3
      -- number
      refine ⟨_, rfl, S, c, 5, rfl, m3.z, by decide, by decide, fun H4 r4 m4 s0 s1 => ?_⟩
      refine Evl.q_cut (M := fun σ' Hx => ∃ nn : Int, σ' = [some (.ref S), some (.ref dv), some (.int 4), some (.ref q), some (.int i), some (.ref t5), some (.int nn), o7, o8, o9, o10, none, none] ∧ Mv S c H3 Hx ∧ 0 ≤ nn ∧ nn ≤ 1000000) ?_ ?_
      · refine ⟨_, rfl, S, c, 4, rfl, m4.z, by decide, by decide, fun H5 r5 m5 _ _ => ⟨rfl, _, rfl, ite2 (fun _ => ?_) (fun _ => ?_)⟩⟩
        · exact ⟨_, rfl, S, c, 1000001, rfl, m5.z, by decide, by decide, fun H6 r6 m6 u0 u1 => ⟨r6, rfl, m4.trans (m5.trans m6), u0, by omega⟩⟩
        · exact ⟨r4, rfl, m4.trans m5, s0, by omega⟩
      rintro σ' H5 ⟨n1, rfl, m5, n10, n11⟩
      refine Evl.q_cut (M := fun σ' Hx => ∃ nn : Int, σ' = [some (.ref S), some (.ref dv), some (.int 4), some (.ref q), some (.int i), some (.ref t5), some (.int nn), o7, o8, o9, o10, none, none] ∧ Mv S c H' Hx ∧ 0 ≤ nn ∧ nn ≤ 1000000 ∧ nn ∉ ids) ?_ ?_
      · have ht55 := m5.fr t5 _ t5S.1 t5S.2 ht53
        refine Evl.s_when (Evl.et_test (Evl.ev_op (Evl.ev_var rfl) (Evl.ev_var rfl) (Evl.rv_isL (Evl.sq_of ht55) rfl (flat_ints ids)))) (fun _ H6 e6 => ?_) (fun hb H6 e6 => ?_)
        · obtain ⟨j, hj, j0, j1, nj⟩ := spare_int ids
          refine Evl.s_asg (v := .int j) (Evl.ev_opL1 (Evl.el_lcR1 _ _ (Evl.ea_cons (Evl.ev_op (ev_lenL (Evl.ev_var rfl) (.inl (Evl.sq_of (e6 _ _ ht55)))) Evl.ev_c Evl.rv_I0) Evl.ea_nil) ⟨by omega, by rw [List.length_map]; omega⟩ (fun _ => rfl) (fun i H7 e7 _ => Evl.et_test (Evl.ev_op (Evl.ev_var rfl) (Evl.ev_var rfl) (Evl.rv_niL (Evl.sq_of ((e6.trans e7) _ _ ht55)) rfl (flat_ints ids)))) (fun i H7 e7 _ _ => Evl.ev_var rfl)) (fun _ _ => Evl.ev_c) fun p2 H7 hp7 e7 => Evl.rv_ixL (Evl.sq_of hp7) (atI_nat hj)) fun H7 e7 => ?_
          exact ⟨j, rfl, m3.trans ((m5.tx e6).tx e7), j0, by omega, nj⟩
        · refine ⟨n1, rfl, m3.trans (m5.tx e6), n10, n11, fun hm => ?_⟩
          rw [inV_ints.mpr hm] at hb
          cases hb
      rintro σ' H6 ⟨nn, rfl, m6, nn0, nn1, nnid⟩
      clear m5 m4 m3 ht53 e3 ht5 t5S n10 n11
      -- fields
      intro a7 h7
      have h7n := m6.back h7
      have a7S := m6.z.someS h7
      have mH6 := mH.trans m6
      have hx6 : ∀ {b : Addr} {o : HO} {Hx : Hp}, Mv S c H6 Hx → b ≠ S ∧ b ≠ c → H b = some o → Hx b = some o := fun mx nb hb => (mH6.trans mx).fr _ _ nb.1 nb.2 hb
      have m7 := Mv.new (o := .dK []) m6.z h7
      have keysf : fes.map (·.1) = (fl.map (·.1)).map Sum.inr := by
        have key : ∀ {f : Fl} {es : List (Key × V)}, Paired (fun (q' : Str × D) (e : Key × V) => e.1 = Sum.inr q'.1 ∧ Rep H n (fun b => (PP b ∧ b ≠ dv) ∧ b ≠ fa) q'.2 e.2) (f.map fun p => (p.1, D.tup (p.2.map .str))) es → es.map (·.1) = (f.map (·.1)).map (Sum.inr : Str → Key) := by
          intro f
          induction f with
          | nil => intro es p; cases p; rfl
          | cons x f ih =>
            intro es p
            rw [List.map_cons] at p
            cases p with
            | cons h t => rw [List.map_cons, List.map_cons, List.map_cons, ih t, h.1]
        exact key fpr
      have cho := flD_cho hrf
      refine ev_get (Evl.ev_var rfl) Evl.ev_c (.inl (hx6 m7 dvS hdv)) hvf _ (Ex.refl _) _ fun H8 e8 => ?_
      have m8 := m7.tx e8
      refine ⟨fa, fes, _, rfl, .inl (hx6 m8 faS hfa), keysf, by rw [List.length_map]; have := okf.1; omega, fun ys p perm _ hp => ?_⟩
      have pS := m8.z.someS hp
      have m9 := m8.tx (Ex.new (o := .lst (ys.map V.str)) hp)
      have ysnd : ys.Nodup := perm.nodup_iff.mpr okf.2.1
      have h78 : (upd H8 p (.lst (ys.map V.str))) a7 = some (.dK []) := Ex.new hp _ _ (e8 _ _ upd_same)
      have np7 : p ≠ a7 := fun e => by rw [e, e8 _ _ upd_same] at hp; cases hp
      refine ⟨p, rfl, ⟨_, Evl.sq_of upd_same⟩, for_list (K := K) (a := p) (xs := ys.map V.str) (fun j σ' Hx => ∃ (fs : List (Str × D)) (es : List (Key × V)) (o8 o9 : Option V), σ' = [some (.ref S), some (.ref dv), some (.int 4), some (.ref q), some (.int i), some (.ref t5), some (.int nn), some (.ref a7), o8, o9, o10, none, none] ∧ Mv S c H6 Hx ∧ Hx p = some (.lst (ys.map V.str)) ∧ Hx a7 = some (.dK es) ∧
        fs.map (·.1) = ys.take j ∧ es.map (·.1) = (ys.take j).map Sum.inr ∧ Paired (fun (x : D) (v : V) => ∃ s, x = .str s ∧ v = .str s) (fs.map (·.2)) (es.map (·.2)) ∧ ∀ p ∈ fs, ∃ x ws, p.2 = .str x ∧ (p.1, ws) ∈ fl ∧ x ∈ ws) ⟨[], [], _, _, rfl, m9, upd_same, h78, rfl, rfl, .nil, fun p hp => (nomatch hp)⟩ (fun j σ' Hx _ ⟨_, _, _, _, _, _, h, _⟩ => Evl.sq_of h) (fun j x σ' Hx hx pv => ?_) fun σ' Hx pv => ?_⟩
      · obtain ⟨fs, es, p8, p9, rfl, mx, hpx, h7x, fk, ek, pfe, fok⟩ := pv
        obtain ⟨y, hy, rfl⟩ := str_at hx
        obtain ⟨pr0, hpr0, e0⟩ := List.mem_map.mp (perm.mem_iff.mp (List.mem_of_getElem? hy))
        obtain ⟨yn, ws⟩ := pr0
        cases e0
        have hlk : (fl.map fun p => (p.1, p.2.map V.str)).lookup yn = some (ws.map V.str) := by
          refine lk_of_mem ?_ (List.mem_map.mpr ⟨_, hpr0, rfl⟩)
          rw [List.map_map]
          exact okf.2.1
        obtain ⟨ces, hces, cpr⟩ := id cho
        rw [hfa] at hces
        cases hces
        obtain ⟨ve, hve, t, rfl, ht⟩ := pair_lkV (F := fun x v => ∃ t, v = .ref t ∧ H t = some (.tup x)) cpr hlk
        have ht' : ∀ {Hz : Hp}, Mv S c H6 Hz → Hz t = some (.tup (ws.map V.str)) := fun mz => (mH6.trans mz).tup ht
        refine Evl.q_asg (v := .ref t) (ev_get (ev_get (Evl.ev_var rfl) Evl.ev_c (.inl (hx6 mx dvS hdv)) hvf) (Evl.ev_var rfl) (.inl (hx6 mx faS hfa)) hve) fun Hy ey => ?_
        have my := mx.tx ey
        obtain ⟨_, wl2, wl3, _, _⟩ := okf.2.2 _ hpr0
        have wl2 : 2 ≤ ws.length := wl2
        have wl3 : ws.length ≤ 3 := wl3
        refine ⟨_, rfl, _, rfl, _, rfl, .ref t, _, rfl, .inr ⟨_, Evl.st_of (ht' my), rfl⟩, S, c, _, rfl, my.z, by rw [List.length_map]; omega, by rw [List.length_map]; omega, fun Hz rz mz z0 z1 => ?_⟩
        have mz6 := my.trans mz
        obtain ⟨vz, hvz, haz⟩ := at_get z0 z1
        obtain ⟨sz, hsz, rfl⟩ := str_at hvz
        refine ⟨t, _, rz, _, rfl, rfl, Evl.st_of (ht' mz6), haz, _, rfl, _, rfl, a7, _, rfl, .inl ⟨es, Sum.inr yn, mz.fr a7 _ a7S.1 a7S.2 (ey _ _ h7x), rfl, ?_, rfl⟩, ?_⟩
        · have l1 := congrArg List.length ek
          rw [List.length_map, List.length_map, List.length_take] at l1
          have l2 := perm.length_eq
          rw [List.length_map] at l2
          have := okf.1
          exact Evl.sz_lt (by omega)
        · have nv : valV es (Sum.inr yn : Key) = none := vV_no (by rw [ek]; exact inr_not (not_take ysnd hy))
          refine ⟨fs ++ [(yn, .str sz)], es ++ [(Sum.inr yn, .str sz)], _, _, rfl, mz6.mut h7, by rw [upd_ne np7]; exact mz.fr p _ pS.1 pS.2 (ey _ _ hpx), by rw [upd_same, putK_new _ nv], by rw [List.map_append, fk, take_snoc hy]; rfl, by rw [List.map_append, ek, take_snoc hy, List.map_append]; rfl, ?_, fun e he => ?_⟩
          · rw [List.map_append, List.map_append]
            exact pair_snoc pfe ⟨sz, rfl, rfl⟩
          · rcases List.mem_append.mp he with he | he
            · exact fok e he
            · rw [List.mem_singleton.mp he]
              exact ⟨sz, ws, rfl, hpr0, List.mem_of_getElem? hsz⟩
      · obtain ⟨fs, es, p8, p9, rfl, mx, hpx, h7x, fk, ek, pfe, fok⟩ := pv
        rw [List.length_map, List.take_of_length_le (Nat.le_refl _)] at fk ek
        have okfs : okF2 fl fs := okF2_of okf.2.1 perm fk fok
        have lfs : fs.length ≤ 2 := by
          have h1 := congrArg List.length fk
          rw [List.length_map] at h1
          have h2 := perm.length_eq
          rw [List.length_map] at h2
          have := okf.1
          omega
        have fkk := fk
        clear fk fok m9 m8 e8 hpx h78 cho keysf
        -- lists
        intro a10 h10
        have m6x := m6.trans mx
        have mHx := mH.trans m6x
        have h10H' := m6x.back h10
        have a10S := mx.z.someS h10
        have hiax : Hx ia = some (.dK ies) := hx6 mx iaS hia
        have hdvx : Hx dv = some (.dK des) := hx6 mx dvS hdv
        have n10i : a10 ≠ ia := fun e => by rw [e, hiax] at h10; cases h10
        have n10d : a10 ≠ dv := fun e => by rw [e, hdvx] at h10; cases h10
        have ndi2 : dv ≠ ia := fun e => Pia.2 e.symm
        have lki : ies.length = ii.length := by rw [← pair_len ipr, pair_len pls]
        have hz10 : ∀ {o : HO} {b : Addr} {u : HO}, (upd Hx ia o) b = none → Hx b = none := fun {o b u} hb => by
          by_cases e : b = ia
          · rw [e, upd_same] at hb; cases hb
          · rw [upd_ne e] at hb; exact hb
        refine for_lock (J := fun od => Itk ia od ies) (xs := fun _ => none) (d := ia) (es := ies) (by rw [upd_ne n10i.symm]; exact hiax) (fun od R r => ⟨.ref dv, rfl, dv, .ref ia, rfl, .inl ⟨des, Sum.inr "inner", .inl (by rw [upd_ne ndi2, upd_ne n10d.symm]; exact hdvx), rfl, hvi.symm⟩, ia, od, rfl, .inl ⟨ies, upd_same, r⟩⟩) (fun od => walk_keys)
          (fun od j σ' Hy => ∃ (ls : List (Str × D)) (es10 : List (Key × V)) (ix10 : Addr → Nat) (u8 : Option V), σ' = [some (.ref S), some (.ref dv), some (.int 4), some (.ref q), some (.int i), some (.ref t5), some (.int nn), some (.ref a7), u8, p9, some (.ref a10), none, none] ∧ Mv S c (upd Hx ia (.frz od (.dK ies))) Hy ∧ Hy a10 = some (.dK es10) ∧
            es10.map (·.1) = (((upS ii).map (·.1)).take j).map Sum.inr ∧ Tr (fun S d v => RepT Hy (3 * m + 1) S d v) (fun b => Hx b = none) a10 ix10 (ls.map (·.2)) (es10.map (·.2)) ∧ Paired (fun (p : Str × D) (q : Str × Fl × List (Str × Fl)) => p.1 = q.1 ∧ gR m q.2.1 q.2.2 p.2) ls ((upS ii).take j))
          (fun od => ⟨[], [], fun _ => 0, _, rfl, ⟨mx.z.upd iaS, (mx.z.upd a10S).upd iaS, fun b o _ _ hb => ?_⟩, by rw [upd_ne n10i]; exact upd_same, rfl, ⟨rfl, fun i d x h => (nomatch h)⟩, .nil⟩) (fun od j σ' Hy _ ⟨_, _, _, _, _, mv, _⟩ => mv.fr ia _ iaS.1 iaS.2 upd_same) (fun od j x σ' H0 Hy hlt pv y => ?_) fun od σ' Hy pv => ?_
        · by_cases e : b = ia
          · rw [e] at hb ⊢; rw [upd_same] at hb ⊢; exact hb
          · rw [upd_ne e] at hb ⊢
            have : b ≠ a10 := fun z => by rw [z, h10] at hb; cases hb
            rw [upd_ne this]; exact hb
        · obtain ⟨ls, es10, ix10, u8, rfl, mv, h10y, ek10, tr10, pg⟩ := pv
          obtain ⟨rfl, kk, vj, hkv, rfl⟩ := y
          obtain ⟨⟨nm, dj⟩, hdj, hk, hrepj⟩ := pair_back ipr hkv
          have hk : kk = Sum.inr nm := hk
          subst hk
          obtain ⟨⟨nm', fj⟩, hij, e2, hl0⟩ := pair_at pls hdj
          have e2 : nm = nm' := e2
          subst e2
          have m1 : 1 ≤ m := by
            cases m with
            | zero => rw [hm0 (by decide)] at hij; cases hij
            | succ m => omega
          have hupj : (upS ii)[j]? = some (nm, fj, []) := by unfold upS; rw [List.getElem?_map, hij]; rfl
          have hupk : ((upS ii).map (·.1))[j]? = some nm := by rw [List.getElem?_map, hupj]; rfl
          have upnd : ((upS ii).map (·.1)).Nodup := by
            have : (upS ii).map (·.1) = ii.map (·.1) := by unfold upS; rw [List.map_map]; rfl
            rw [this]; exact ind
          have hvj : valV ies (Sum.inr nm : Key) = some vj := by
            refine valV_at ?_ hkv
            have : ies.map (·.1) = (ii.map (·.1)).map Sum.inr := by
              have h1 : ies.map (·.1) = (de.map (·.1)).map Sum.inr := by
                refine List.ext_getElem? fun t => ?_
                rw [List.getElem?_map, List.getElem?_map, List.getElem?_map]
                cases ht : ies[t]? with
                | none =>
                  have : de[t]? = none := List.getElem?_eq_none_iff.mpr (by rw [pair_len ipr]; exact List.getElem?_eq_none_iff.mp ht)
                  rw [this]; rfl
                | some e =>
                  obtain ⟨p, hp, h1, _⟩ := pair_back ipr ht
                  rw [hp]; exact congrArg some h1
              have h2 : de.map (·.1) = ii.map (·.1) := by
                refine List.ext_getElem? fun t => ?_
                rw [List.getElem?_map, List.getElem?_map]
                cases ht : ii[t]? with
                | none =>
                  have : de[t]? = none := List.getElem?_eq_none_iff.mpr (by rw [pair_len pls]; exact List.getElem?_eq_none_iff.mp ht)
                  rw [this]; rfl
                | some e =>
                  obtain ⟨p, hp, h1, _⟩ := pair_back pls ht
                  rw [hp]; exact congrArg some h1
              rw [h1, h2]
            rw [this]
            exact List.Pairwise.map _ (fun a b h z => h (Sum.inr.inj z)) ind
          have hrepy : Rep Hy n (fun b => (PP b ∧ b ≠ dv) ∧ b ≠ ia) dj vj := rep_mv mv (fun z => nS z.1.1) (fun z => nc z.1.1) (rep_lock hiax (fun b z => z.2) (rep_mv mHx (fun z => nS z.1.1) (fun z => nc z.1.1) hrepj))
          have hdvy : Hy dv = some (.dK des) := mv.fr dv _ dvS.1 dvS.2 (by rw [upd_ne ndi2]; exact hdvx)
          have hiay : Hy ia = some (.frz od (.dK ies)) := mv.fr ia _ iaS.1 iaS.2 upd_same
          obtain ⟨l0, rfl, l02, l0f, l0i⟩ := hl0
          refine ⟨_, rfl, _, rfl, dv, .ref ia, rfl, .inl ⟨des, Sum.inr "inner", .inl hdvy, rfl, hvi.symm⟩, _, rfl, ia, vj, rfl, .inl ⟨ies, Sum.inr nm, .inr ⟨od, hiay⟩, rfl, hvj.symm⟩, _, rfl, S, c, vj, n, _, .dic l0, fj, [], rfl, mv.z, hrepy, fun z => nS z.1.1, fun z => nc z.1.1, ⟨l0, [], rfl, l02, l0f, l0i, .nil⟩, iok _ (List.mem_of_getElem? hij), List.nodup_nil, Nat.zero_le _, fun q hq => (nomatch hq), fun _ => rfl, m1, fun H3 q3 rd m3 hrd hg => ?_⟩
          have h103 : H3 a10 = some (.dK es10) := m3.fr a10 _ a10S.1 a10S.2 h10y
          have nv : valV es10 (Sum.inr nm : Key) = none := vV_no (by rw [ek10]; exact inr_not (not_take upnd hupk))
          refine ⟨_, rfl, _, rfl, a10, _, rfl, .inl ⟨es10, Sum.inr nm, h103, rfl, ?_, rfl⟩, ?_⟩
          · have l1 := congrArg List.length ek10
            rw [List.length_map, List.length_map, List.length_take] at l1
            exact Evl.sz_lt (by omega)
          · have back : ∀ b, Hy b = none → Hx b = none := fun b hb => hz10 (u := .dK []) (mv.back hb)
            have xS : ¬ Hx S = none := fun z => (mx.z.someS z).1 rfl
            have xc : ¬ Hx c = none := fun z => (mx.z.someS z).2 rfl
            obtain ⟨ix', tr'⟩ := tr_snoc (R := fun S d v => RepT (upd H3 a10 (.dK (es10 ++ [(Sum.inr nm, .ref q3)]))) (3 * m + 1) S d v) (S := fun b => Hx b = none) (a := a10) (ix := ix10) (l := ls.map (·.2)) (xs := es10.map (·.2)) (Hk := Hy) (d := rd) (x := .ref q3) (fun _ _ _ _ h r => rt_S h r)
              (tr_imp (fun i d x r => rt_upd (fun b hb => hb.1.2) (rt_mv m3 (fun z => xS z.1.1.1) (fun z => xc z.1.1.1) (rt_Sd (fun b hb hb2 => ⟨⟨⟨hb.1.1, hb2⟩, hb.1.2⟩, hb.2⟩) r))) tr10)
              (rt_upd (fun b hb => hb.1.2) (rt_S (fun b hb => ⟨⟨back b hb, fun z => by rw [z, h10y] at hb; cases hb⟩, hb⟩) hrd))
            refine ⟨ls ++ [(nm, rd)], es10 ++ [(Sum.inr nm, .ref q3)], ix', _, rfl, (mv.trans m3).mut (by rw [upd_ne n10i]; exact h10), by rw [upd_same, putK_new _ nv], by rw [List.map_append, ek10, take_snoc hupk, List.map_append]; rfl, ?_, ?_⟩
            · rw [putK_new _ nv, List.map_append, List.map_append]; exact tr'
            · rw [take_snoc hupj]; exact pair_snoc pg ⟨rfl, hg⟩
        · obtain ⟨ls, es10, ix10, u8, rfl, mv, h10y, ek10, tr10, pg⟩ := pv
          have hle : (upS ii).length ≤ ies.length := by unfold upS; rw [List.length_map]; omega
          rw [List.take_of_length_le (by rw [List.length_map]; exact hle)] at ek10
          rw [List.take_of_length_le hle] at pg
          have mu : Mv S c Hx (upd Hy ia (.dK ies)) := by
            refine ⟨mx.z, mv.z.upd iaS, fun b o b1 b2 hb => ?_⟩
            by_cases e : b = ia
            · rw [e] at hb ⊢; rw [upd_same, ← hiax]; exact hb
            · rw [upd_ne e]
              exact mv.fr b o b1 b2 (by rw [upd_ne e]; exact hb)
          have h10u : (upd Hy ia (.dK ies)) a10 = some (.dK es10) := by rw [upd_ne n10i]; exact h10y
          have tru : Tr (fun S d v => RepT (upd Hy ia (.dK ies)) (3 * m + 1) S d v) (fun b => Hx b = none) a10 ix10 (ls.map (·.2)) (es10.map (·.2)) := tr_imp (fun i d x r => rt_upd (fun b hb e => by rw [e] at hb; rw [hiax] at hb; exact (nomatch hb.1.1)) r) tr10
          generalize (upd Hy ia (.dK ies)) = Hu at mu h10u tru ⊢
          have h7u := mu.fr a7 _ a7S.1 a7S.2 h7x
          have hqu : Hu q = some (.lst xs) := mu.fr q _ qS.1 qS.2 (m6x.fr q _ qS.1 qS.2 hqH)
          refine ⟨_, rfl, Or.inl ⟨rfl, xs, Evl.sq_of hqu⟩, fun p9' hp9 => ⟨_, rfl, _, rfl, _, rfl, upd_same, [(Sum.inr "id", .int nn), (Sum.inr "fields", .ref a7), (Sum.inr "lists", .ref a10)], rfl, (by show 3 ≤ 15; decide), ?_⟩⟩
          rw [merge3 nIF nIL nFL]
          have mE : Mv S c Hu (upd (upd Hu p9' (.dK [])) p9' (.dK [(Sum.inr "id", .int nn), (Sum.inr "fields", .ref a7), (Sum.inr "lists", .ref a10)])) := (Mv.new mu.z hp9).mut hp9
          have hp9E : (upd (upd Hu p9' (.dK [])) p9' (.dK [(Sum.inr "id", .int nn), (Sum.inr "fields", .ref a7), (Sum.inr "lists", .ref a10)])) p9' = some (.dK [(Sum.inr "id", .int nn), (Sum.inr "fields", .ref a7), (Sum.inr "lists", .ref a10)]) := upd_same
          have n97 : p9' ≠ a7 := fun e => by rw [e, h7u] at hp9; cases hp9
          have n90 : p9' ≠ a10 := fun e => by rw [e, h10u] at hp9; cases hp9
          have n9q : p9' ≠ q := fun e => by rw [e, hqu] at hp9; cases hp9
          have hEn : ∀ b, b ≠ p9' → (upd (upd Hu p9' (.dK [])) p9' (.dK [(Sum.inr "id", .int nn), (Sum.inr "fields", .ref a7), (Sum.inr "lists", .ref a10)])) b = Hu b := fun b nb => by rw [upd_ne nb, upd_ne nb]
          generalize (upd (upd Hu p9' (.dK [])) p9' (.dK [(Sum.inr "id", .int nn), (Sum.inr "fields", .ref a7), (Sum.inr "lists", .ref a10)])) = HE at mE hp9E hEn ⊢
          have hqE : HE q = some (.lst xs) := by rw [hEn q n9q.symm]; exact hqu
          have h7E : HE a7 = some (.dK es) := by rw [hEn a7 n97.symm]; exact h7u
          have h10E : HE a10 = some (.dK es10) := by rw [hEn a10 n90.symm]; exact h10u
          refine ⟨q, xs, .ref p9', rfl, rfl, hqE, Evl.sz_lt (by omega), ?_⟩
          have m'E : Mv S c H' HE := m6x.trans (mu.trans mE)
          have hp9H' : H' p9' = none := (m6x.trans mu).back hp9
          have a7x : (if (Hx a7).isNone = true then 2 else 1) = 1 := by rw [h7x]; rfl
          have lkls : ls.map (·.1) = (upS ii).map (·.1) := by
            refine List.ext_getElem? fun t => ?_
            rw [List.getElem?_map, List.getElem?_map]
            cases ht : (upS ii)[t]? with
            | none =>
              have : ls[t]? = none := List.getElem?_eq_none_iff.mpr (by rw [pair_len pg]; exact List.getElem?_eq_none_iff.mp ht)
              rw [this]; rfl
            | some e =>
              obtain ⟨p, hp, h1, _⟩ := pair_back pg ht
              rw [hp]; exact congrArg some h1
          have rowE : RepT HE (3 * m + 3) (fun b => H' b = none) (rowD nn fs ls) (.ref p9') := by
            refine ⟨p9', _, fun b => if (Hx b).isNone = true then 2 else 1, rfl, hp9H', hp9E, (by show 3 ≤ 100000; decide), rfl, rfl, fun t d x h1 h2 => ?_⟩
            match t, h1, h2 with
            | 0, h1, h2 => cases h1; cases h2; rfl
            | 1, h1, h2 =>
              cases h1; cases h2
              refine ⟨a7, es, fun _ => 0, rfl, ⟨⟨h7n, n97.symm⟩, a7x⟩, h7E, by omega, ?_, ?_, fun t d x h1 h2 => ?_⟩
              · rw [ek]
                have : fs.map (fun q => (Sum.inr q.1 : Key)) = (fs.map (·.1)).map Sum.inr := by rw [List.map_map]; rfl
                rw [this]; congr 1
                have h1 := fkk
                exact h1.symm
              · exact pair_len pfe
              · obtain ⟨b, hb, s, rfl, rfl⟩ := pair_at pfe h1
                rw [hb] at h2; cases h2; rfl
            | 2, h1, h2 =>
              cases h1; cases h2
              refine ⟨a10, es10, ix10, rfl, ⟨⟨h10H', n90.symm⟩, by show (if (Hx a10).isNone = true then 2 else 1) = 2; rw [h10]; rfl⟩, h10E, ?_, ?_, tr_imp (fun i d x r => rt_mv mE (fun z => (mH.z.someS z.1.1.1.1).1 rfl) (fun z => (mH.z.someS z.1.1.1.1).2 rfl) (rt_Sd (fun b hb hb2 => ?_) r)) tru⟩
              · rw [pair_len pg]; unfold upS; rw [List.length_map]; omega
              · rw [ek10, ← lkls, List.map_map]; rfl
              · refine ⟨⟨⟨⟨m6x.back hb.1.1, fun z => ?_⟩, ?_⟩, hb.1.2⟩, hb.2⟩
                · exact hb2 (by rw [z]; exact hp9)
                · show (if (Hx b).isNone = true then 2 else 1) = 2
                  rw [hb.1.1]; rfl
            | t + 3, h1, h2 => cases h1
          have mHE := mH.trans m'E
          obtain ⟨ix', tr'⟩ := tr_snoc (R := fun S d v => RepT (upd HE q (.lst (xs ++ [.ref p9']))) (3 * m + 3) S d v) (S := fun b => H b = none) (a := q) (ix := ix) (l := rs) (xs := xs) (Hk := H') (d := rowD nn fs ls) (x := .ref p9') (fun _ _ _ _ h r => rt_S h r)
            (tr_imp (fun i d x r => rt_upd (fun b hb => hb.1.2) (rt_mv m'E (fun z => (st.someS z.1.1.1).1 rfl) (fun z => (st.someS z.1.1.1).2 rfl) (rt_Sd (fun b hb hb2 => ⟨⟨⟨hb.1.1, hb2⟩, hb.1.2⟩, hb.2⟩) r))) tr)
            (rt_upd (fun b hb => hb.1.2) (rt_S (fun b hb => ⟨⟨mH.back hb, fun z => by rw [z, hqH] at hb; cases hb⟩, hb⟩) rowE))
          refine ⟨xs ++ [.ref p9'], rs ++ [rowD nn fs ls], ids ++ [nn], ix', _, _, _, _, _, _, _, rfl, mHE.mut hq, upd_same, tr', ?_, by rw [List.length_append, lrs]; rfl, pair_snoc prs ⟨fs, ls, rfl, nn0, nn1, okfs, pg⟩⟩
          refine List.nodup_append.mpr ⟨ndi, by simp, fun a ha b hb => ?_⟩
          rw [List.mem_singleton.mp hb]
          intro e
          exact nnid (by rw [← e]; exact ha)
    · obtain ⟨xs, rs, ids, ix, o4, o5, o6, o7, o8, o9, o10, rfl, mH, hqH, tr, ndi, lrs, prs⟩ := pv
      exact Evl.s_ret (Evl.ev_var rfl) fun H7 e7 => k H7 q (.lst rs) (mH.tx e7) (rt_ex e7 ⟨q, xs, ix, rfl, hq, hqH, by omega, tr⟩) ⟨rs, ids, rfl, ndi, by omega, prs⟩
end
end Pk

namespace Pk
open PySem PySem.Spec PyProof.Rows L2 Ssb
open Evl (Ex Ev EvT EvL EvA EvU)
theorem pair_names {α β : Type} {F : Str × α → Str × β → Prop} {l : List (Str × α)} {s : List (Str × β)} (h : Paired (fun p q => p.1 = q.1 ∧ F p q) l s) : l.map (·.1) = s.map (·.1) := by
  induction h with
  | nil => rfl
  | cons h t ih => rw [List.map_cons, List.map_cons, ih, h.1]
theorem pair_keys {α : Type} {F : Str × α → Key × V → Prop} {l : List (Str × α)} {es : List (Key × V)} (h : Paired (fun p e => e.1 = Sum.inr p.1 ∧ F p e) l es) : es.map (·.1) = (l.map (·.1)).map Sum.inr := by
  induction h with
  | nil => rfl
  | cons h t ih => rw [List.map_cons, List.map_cons, List.map_cons, ih, h.1]
theorem inr_nd {ks : List Str} (h : ks.Nodup) : (ks.map (Sum.inr : Str → Key)).Nodup := List.Pairwise.map _ (fun a b h z => h (Sum.inr.inj z)) h
theorem sh_nd : ∀ {s : Sh}, ((rowsS s).map (·.1)).Nodup → (s.map (·.1)).Nodup := fun {s} h => by
  refine List.Sublist.nodup ?_ h
  clear h
  induction s with
  | nil => exact List.Sublist.slnil
  | cons p s ih =>
    have : (rowsS (p :: s)).map (·.1) = p.1 :: ((p.2.2.map fun q => ((q.1, some p.1, q.2) : Ro)).map (·.1) ++ (rowsS s).map (·.1)) := by
      show ((rowsOf p ++ rowsS s).map (·.1)) = _
      rw [List.map_append]; rfl
    rw [this, List.map_cons]
    exact (ih.trans (List.sublist_append_right _ _)).cons_cons _
theorem Mv.strs {S c a : Addr} {H : Hp} {fl : List Str} (st : StAt H S c) (h : H a = some (.lst (fl.map V.str))) : a ≠ S ∧ a ≠ c := by
  obtain ⟨_, k, cs, h1, h2, h3, _⟩ := st
  refine ⟨fun e => ?_, fun e => ?_⟩
  · rw [e, h1] at h
    have h := Option.some.inj h
    cases fl with
    | nil => cases h
    | cons x xs =>
      rw [List.map_cons] at h
      cases h
  · rw [e, h2] at h
    have h := HO.lst.inj (Option.some.inj h)
    cases cs with
    | nil => exact absurd h3 (by decide)
    | cons y ys =>
      cases fl with
      | nil => cases h
      | cons x xs =>
        rw [List.map_cons, List.map_cons] at h
        cases h
theorem nGL : ¬ (("flags" : Str) = "lists") := by decide +kernel
section
variable {P : Program} {w : World} {K : PySem.W.Frag} {mg : Str → Option Value} {base : Heap} {C_Shape C_InvalidData C_InvalidShape C_StayError : Addr}
def gLs (m : Nat) (ls : List (Str × D)) (s : Sh) : Prop := Paired (fun (p : Str × D) (q : Str × Fl × List (Str × Fl)) => p.1 = q.1 ∧ gR m q.2.1 q.2.2 p.2) ls s
def gD (fl : List Str) (s : Sh) (dd : D) : Prop := ∃ fgs ls, dd = .dic [("flags", .dic fgs), ("lists", .dic ls)] ∧ fgs.map (·.1) = fl ∧ (∀ p ∈ fgs, ∃ b, p.2 = .bl b) ∧ gLs 2 ls s
def spLd : Sp := fun vs H Q _ => ∃ (S c a : Addr) (v : V) (n : Nat) (P : Addr → Prop) (d : D) (fl : List Str) (s : Sh), vs = [.ref S, .ref a, v, .int 4] ∧ StAt H S c ∧ H a = some (.lst (fl.map V.str)) ∧ fl.Nodup ∧ fl.length ≤ 2 ∧ Rep H n P d v ∧ ¬ P S ∧ ¬ P c ∧ shD d s ∧ okSh s ∧
  ∀ H' q dd, Mv S c H H' → RepT H' 9 (fun b => H b = none) dd (.ref q) → gD fl s dd → Q (.ref q) H'
theorem ok__law_rows2 (T : Txt K mg C_Shape C_InvalidData C_InvalidShape C_StayError) (R : Prg K mg C_Shape C_InvalidData C_InvalidShape C_StayError) : ∃ f fd, Fn P w K mg base "_law_rows" 3 ["_law_stream_here", "_law_described", "_law_most"] (spLr 2) f fd := ok__law_rows T R (by decide) (ok__law_rows T R (by decide) (ok__law_rows0 T R))
theorem ok__law_data (T : Txt K mg C_Shape C_InvalidData C_InvalidShape C_StayError) (R : Prg K mg C_Shape C_InvalidData C_InvalidShape C_StayError) : ∃ f fd, Fn P w K mg base "_law_data" 4 ["_law_stream_here", "_law_flags", "_law_lists_here", "_law_most"] spLd f fd := by
  obtain ⟨_, _, G__law_rows⟩ := ok__law_rows2 (P := P) (w := w) (base := base) T R
  obtain ⟨_, _, G__law_draw⟩ := ok__law_draw (P := P) (w := w) (base := base) T R
  obtain ⟨f, fd, at_, F, kp⟩ := R._law_data
  refine ⟨f, fd, F.ok sc__law_data (fun vs H Q E h => ?_) (fun cdv A outer s H vs Q E hr h => ?_), at_, kp, F.binds (fun _ _ _ _ _ _ us hl => match us, hl with | [_, _, _, _], _ => rfl)⟩
  · obtain ⟨S, c, a, v, n, P, d, fl, s, rfl, _⟩ := h; rfl
  · obtain ⟨S, c, a, v, n, PP, dd, fl, sh, rfl, st, ha, fnd, fl2, hv, nS, nc, ⟨dl, rfl, pls⟩, okS, k⟩ := h
    cases n with
    | zero => exact hv.elim
    | succ n =>
    obtain ⟨ia, ies, rfl, Pia, hia, _, ipr⟩ := id hv
    have iaS : ia ≠ S ∧ ia ≠ c := ⟨fun e => nS (e ▸ Pia), fun e => nc (e ▸ Pia)⟩
    have aS := Mv.strs st ha
    have lki : ies.length = sh.length := by rw [← pair_len ipr, pair_len pls]
    have shn : (sh.map (·.1)).Nodup := sh_nd okS.2.1
    have ikeys : ies.map (·.1) = (sh.map (·.1)).map Sum.inr := by rw [pair_keys ipr, pair_names pls]
    refine ⟨_, (pss_cons (ps_set (i := 4) sc__law_data.nd rfl (Or.inl rfl) pe_dnewK)
  (pss_cons (ps_for PassesOwn.never rfl (show PI _ _ _ (iList K _) from pi_list (pv 1)) (pg_name (i := 5) sc__law_data.nd rfl (Or.inl rfl))
    (pss_one (ps_dput (hu_of hr) (pv 4) (pv 5) (pe_cmpR op_eq (pcl G__law_draw hr (pa_cons (pv 0) (pa_cons pe_int pa_nil))) pe_int (nomark _)) rfl)))
  (pss_cons (ps_set (i := 6) sc__law_data.nd rfl (Or.inl rfl) pe_dnewK)
  (pss_cons (ps_lock (ps_for PassesOwn.never rfl (pi_keys (pv 2)) (pg_name (i := 7) sc__law_data.nd rfl (Or.inl rfl))
    (pss_one (ps_dput (hu_of hr) (pv 6) (pv 7) (pcl G__law_rows hr (pa_cons (pv 0) (pa_cons (pe_dget (hu_of hr) (pv 2) (pv 7) (fun _ _ => rfl)) (pa_cons (pv 3) pa_nil)))) rfl))))
  (pss_one (ps_ret (pe_disp (pps_cons pe_str (pv 4) (pps_cons pe_str (pv 6) pps_nil)) (by rfl) (by rfl) (fun z => by cases z) (by decide)))))))), ?_⟩
    intro a7 h7
    have a7S := st.someS h7
    have m7 := Mv.new (o := .dK []) st h7
    have na7 : a ≠ a7 := fun e => by rw [e, h7] at ha; cases ha
    refine ⟨_, rfl, a, rfl, ⟨_, Evl.sq_of (m7.fr a _ aS.1 aS.2 ha)⟩, for_list (K := K) (a := a) (xs := fl.map V.str) (fun j σ' Hx => ∃ (fs : List (Str × D)) (es : List (Key × V)) (o5 : Option V), σ' = [some (.ref S), some (.ref a), some (.ref ia), some (.int 4), some (.ref a7), o5, none, none] ∧ Mv S c H Hx ∧ Hx a7 = some (.dK es) ∧
        fs.map (·.1) = fl.take j ∧ es.map (·.1) = (fl.take j).map Sum.inr ∧ Paired (fun (x : D) (v : V) => ∃ b, x = .bl b ∧ v = .bl b) (fs.map (·.2)) (es.map (·.2)) ∧ ∀ p ∈ fs, ∃ b, p.2 = .bl b) ⟨[], [], _, rfl, m7, upd_same, rfl, rfl, .nil, fun p hp => (nomatch hp)⟩ (fun j σ' Hx _ ⟨_, _, _, _, m, _⟩ => Evl.sq_of (m.fr a _ aS.1 aS.2 ha)) (fun j x σ' Hx hx pv => ?_) fun σ' Hx pv => ?_⟩
    · obtain ⟨fs, es, o5, rfl, mx, h7x, fk, ek, pfe, fok⟩ := pv
      obtain ⟨y, hy, rfl⟩ := str_at hx
      refine ⟨_, rfl, S, c, 2, rfl, mx.z, by decide, by decide, fun Hz rz mz z0 z1 => ⟨rfl, ?_⟩⟩
      refine ⟨_, rfl, _, rfl, a7, _, rfl, .inl ⟨es, Sum.inr y, mz.fr a7 _ a7S.1 a7S.2 h7x, rfl, ?_, rfl⟩, ?_⟩
      · have l1 := congrArg List.length ek
        rw [List.length_map, List.length_map, List.length_take] at l1
        exact Evl.sz_lt (by omega)
      · have nv : valV es (Sum.inr y : Key) = none := vV_no (by rw [ek]; exact inr_not (not_take fnd hy))
        generalize decide (V.int rz = V.int 1) = bb
        refine ⟨fs ++ [(y, .bl bb)], es ++ [(Sum.inr y, .bl bb)], _, rfl, (mx.trans mz).mut h7, by rw [upd_same, putK_new _ nv], by rw [List.map_append, fk, take_snoc hy]; rfl, by rw [List.map_append, ek, take_snoc hy, List.map_append]; rfl, ?_, fun e he => ?_⟩
        · rw [List.map_append, List.map_append]
          exact pair_snoc pfe ⟨bb, rfl, rfl⟩
        · rcases List.mem_append.mp he with he | he
          · exact fok e he
          · rw [List.mem_singleton.mp he]
            exact ⟨bb, rfl⟩
    · obtain ⟨fs, es, o5, rfl, mx, h7x, fk, ek, pfe, fok⟩ := pv
      rw [List.length_map, List.take_of_length_le (Nat.le_refl _)] at fk ek
      intro a10 h10
      have h10H := mx.back h10
      have a10S := mx.z.someS h10
      have hiax : Hx ia = some (.dK ies) := mx.fr ia _ iaS.1 iaS.2 hia
      have n10i : a10 ≠ ia := fun e => by rw [e, hiax] at h10; cases h10
      have hz10 : ∀ {o : HO} {b : Addr} {u : HO}, (upd Hx ia o) b = none → Hx b = none := fun {o b u} hb => by
        by_cases e : b = ia
        · rw [e, upd_same] at hb; cases hb
        · rw [upd_ne e] at hb; exact hb
      refine for_lock (J := fun od => Itk ia od ies) (xs := fun _ => none) (d := ia) (es := ies) (by rw [upd_ne n10i.symm]; exact hiax) (fun od R r => ⟨_, rfl, ia, od, rfl, .inl ⟨ies, upd_same, r⟩⟩) (fun od => walk_keys)
        (fun od j σ' Hy => ∃ (ls : List (Str × D)) (es10 : List (Key × V)) (ix10 : Addr → Nat) (u8 : Option V), σ' = [some (.ref S), some (.ref a), some (.ref ia), some (.int 4), some (.ref a7), o5, some (.ref a10), u8] ∧ Mv S c (upd Hx ia (.frz od (.dK ies))) Hy ∧ Hy a10 = some (.dK es10) ∧
          es10.map (·.1) = ((sh.map (·.1)).take j).map Sum.inr ∧ Tr (fun S d v => RepT Hy 7 S d v) (fun b => Hx b = none) a10 ix10 (ls.map (·.2)) (es10.map (·.2)) ∧ gLs 2 ls (sh.take j))
        (fun od => ⟨[], [], fun _ => 0, _, rfl, ⟨mx.z.upd iaS, (mx.z.upd a10S).upd iaS, fun b o _ _ hb => ?_⟩, by rw [upd_ne n10i]; exact upd_same, rfl, ⟨rfl, fun i d x h => (nomatch h)⟩, .nil⟩) (fun od j σ' Hy _ ⟨_, _, _, _, _, mv, _⟩ => mv.fr ia _ iaS.1 iaS.2 upd_same) (fun od j x σ' H0 Hy hlt pv y => ?_) fun od σ' Hy pv => ?_
      · by_cases e : b = ia
        · rw [e] at hb ⊢; rw [upd_same] at hb ⊢; exact hb
        · rw [upd_ne e] at hb ⊢
          have : b ≠ a10 := fun z => by rw [z, h10] at hb; cases hb
          rw [upd_ne this]; exact hb
      · obtain ⟨ls, es10, ix10, u8, rfl, mv, h10y, ek10, tr10, pg⟩ := pv
        obtain ⟨rfl, kk, vj, hkv, rfl⟩ := y
        obtain ⟨⟨nm, dj⟩, hdj, hk, hrepj⟩ := pair_back ipr hkv
        have hk : kk = Sum.inr nm := hk
        subst hk
        obtain ⟨⟨nm', fj, ij⟩, hij, e2, hl1⟩ := pair_at pls hdj
        have e2 : nm = nm' := e2
        subst e2
        have hupk : (sh.map (·.1))[j]? = some nm := by rw [List.getElem?_map, hij]; rfl
        have hvj : valV ies (Sum.inr nm : Key) = some vj := valV_at (by rw [ikeys]; exact inr_nd shn) hkv
        have hrepy : Rep Hy n (fun b => PP b ∧ b ≠ ia) dj vj := rep_mv mv (fun z => nS z.1) (fun z => nc z.1) (rep_lock hiax (fun b z => z.2) (rep_mv mx (fun z => nS z.1) (fun z => nc z.1) hrepj))
        have hiay : Hy ia = some (.frz od (.dK ies)) := mv.fr ia _ iaS.1 iaS.2 upd_same
        obtain ⟨okw, okf, il, iok⟩ := okS.2.2 _ (List.mem_of_getElem? hij)
        have okf : okFl fj := okf
        have il : ij.length ≤ 1 := il
        have ind : (ij.map (·.1)).Nodup := by
          match ij, il with
          | [], _ => exact List.nodup_nil
          | [x], _ => simp
        refine ⟨_, rfl, _, rfl, _, rfl, ia, vj, rfl, .inl ⟨ies, Sum.inr nm, .inr ⟨od, hiay⟩, rfl, hvj.symm⟩, _, rfl, S, c, vj, n, _, dj, fj, ij, rfl, mv.z, hrepy, fun z => nS z.1, fun z => nc z.1, hl1, okf, ind, by omega, fun q hq => (iok q hq).2, fun h => absurd h (by decide), by decide, fun H3 q3 rd m3 hrd hg => ?_⟩
        have h103 : H3 a10 = some (.dK es10) := m3.fr a10 _ a10S.1 a10S.2 h10y
        have nv : valV es10 (Sum.inr nm : Key) = none := vV_no (by rw [ek10]; exact inr_not (not_take shn hupk))
        refine ⟨_, rfl, _, rfl, a10, _, rfl, .inl ⟨es10, Sum.inr nm, h103, rfl, ?_, rfl⟩, ?_⟩
        · have l1 := congrArg List.length ek10
          rw [List.length_map, List.length_map, List.length_take, List.length_map] at l1
          have := okS.1
          exact Evl.sz_lt (by omega)
        · have back : ∀ b, Hy b = none → Hx b = none := fun b hb => hz10 (u := .dK []) (mv.back hb)
          have xS : ¬ Hx S = none := fun z => (mx.z.someS z).1 rfl
          have xc : ¬ Hx c = none := fun z => (mx.z.someS z).2 rfl
          obtain ⟨ix', tr'⟩ := tr_snoc (R := fun S d v => RepT (upd H3 a10 (.dK (es10 ++ [(Sum.inr nm, .ref q3)]))) 7 S d v) (S := fun b => Hx b = none) (a := a10) (ix := ix10) (l := ls.map (·.2)) (xs := es10.map (·.2)) (Hk := Hy) (d := rd) (x := .ref q3) (fun _ _ _ _ h r => rt_S h r)
            (tr_imp (fun i d x r => rt_upd (fun b hb => hb.1.2) (rt_mv m3 (fun z => xS z.1.1.1) (fun z => xc z.1.1.1) (rt_Sd (fun b hb hb2 => ⟨⟨⟨hb.1.1, hb2⟩, hb.1.2⟩, hb.2⟩) r))) tr10)
            (rt_upd (fun b hb => hb.1.2) (rt_S (fun b hb => ⟨⟨back b hb, fun z => by rw [z, h10y] at hb; cases hb⟩, hb⟩) hrd))
          refine ⟨ls ++ [(nm, rd)], es10 ++ [(Sum.inr nm, .ref q3)], ix', _, rfl, (mv.trans m3).mut (by rw [upd_ne n10i]; exact h10), by rw [upd_same, putK_new _ nv], by rw [List.map_append, ek10, take_snoc hupk, List.map_append]; rfl, ?_, ?_⟩
          · rw [putK_new _ nv, List.map_append, List.map_append]; exact tr'
          · rw [take_snoc hij]; exact pair_snoc pg ⟨rfl, hg⟩
      · obtain ⟨ls, es10, ix10, u8, rfl, mv, h10y, ek10, tr10, pg⟩ := pv
        have hle : sh.length ≤ ies.length := by omega
        rw [List.take_of_length_le (by rw [List.length_map]; exact hle)] at ek10
        rw [List.take_of_length_le hle] at pg
        have mu : Mv S c Hx (upd Hy ia (.dK ies)) := by
          refine ⟨mx.z, mv.z.upd iaS, fun b o b1 b2 hb => ?_⟩
          by_cases e : b = ia
          · rw [e] at hb ⊢; rw [upd_same, ← hiax]; exact hb
          · rw [upd_ne e]
            exact mv.fr b o b1 b2 (by rw [upd_ne e]; exact hb)
        have h10u : (upd Hy ia (.dK ies)) a10 = some (.dK es10) := by rw [upd_ne n10i]; exact h10y
        have tru : Tr (fun S d v => RepT (upd Hy ia (.dK ies)) 7 S d v) (fun b => Hx b = none) a10 ix10 (ls.map (·.2)) (es10.map (·.2)) := tr_imp (fun i d x r => rt_upd (fun b hb e => by rw [e] at hb; rw [hiax] at hb; exact (nomatch hb.1.1)) r) tr10
        generalize (upd Hy ia (.dK ies)) = Hu at mu h10u tru ⊢
        have h7u := mu.fr a7 _ a7S.1 a7S.2 h7x
        intro p9' hp9
        refine ⟨_, rfl, _, rfl, upd_same, [(Sum.inr "flags", .ref a7), (Sum.inr "lists", .ref a10)], rfl, (by show 2 ≤ 15; decide), ?_⟩
        rw [merge2 nGL]
        have mE : Mv S c Hu (upd (upd Hu p9' (.dK [])) p9' (.dK [(Sum.inr "flags", .ref a7), (Sum.inr "lists", .ref a10)])) := (Mv.new mu.z hp9).mut hp9
        have hp9E : (upd (upd Hu p9' (.dK [])) p9' (.dK [(Sum.inr "flags", .ref a7), (Sum.inr "lists", .ref a10)])) p9' = some (.dK [(Sum.inr "flags", .ref a7), (Sum.inr "lists", .ref a10)]) := upd_same
        have n97 : p9' ≠ a7 := fun e => by rw [e, h7u] at hp9; cases hp9
        have n90 : p9' ≠ a10 := fun e => by rw [e, h10u] at hp9; cases hp9
        have hEn : ∀ b, b ≠ p9' → (upd (upd Hu p9' (.dK [])) p9' (.dK [(Sum.inr "flags", .ref a7), (Sum.inr "lists", .ref a10)])) b = Hu b := fun b nb => by rw [upd_ne nb, upd_ne nb]
        generalize (upd (upd Hu p9' (.dK [])) p9' (.dK [(Sum.inr "flags", .ref a7), (Sum.inr "lists", .ref a10)])) = HE at mE hp9E hEn ⊢
        have h7E : HE a7 = some (.dK es) := by rw [hEn a7 n97.symm]; exact h7u
        have h10E : HE a10 = some (.dK es10) := by rw [hEn a10 n90.symm]; exact h10u
        have hp9H : H p9' = none := (mx.trans mu).back hp9
        have lkls : ls.map (·.1) = sh.map (·.1) := pair_names pg
        refine k HE p9' (.dic [("flags", .dic fs), ("lists", .dic ls)]) ((mx.trans mu).trans mE) ⟨p9', _, fun b => if (Hx b).isNone = true then 1 else 0, rfl, hp9H, hp9E, (by show 2 ≤ 100000; decide), rfl, rfl, fun t d x h1 h2 => ?_⟩ ⟨fs, ls, rfl, fk, fok, pg⟩
        match t, h1, h2 with
        | 0, h1, h2 =>
          cases h1; cases h2
          refine ⟨a7, es, fun _ => 0, rfl, ⟨⟨h7, n97.symm⟩, by show (if (Hx a7).isNone = true then 1 else 0) = 0; rw [h7x]; rfl⟩, h7E, ?_, ?_, ?_, fun t d x h1 h2 => ?_⟩
          · have := congrArg List.length fk
            rw [List.length_map] at this
            omega
          · rw [ek, ← fk, List.map_map]; rfl
          · exact pair_len pfe
          · obtain ⟨b, hb, s, rfl, rfl⟩ := pair_at pfe h1
            rw [hb] at h2; cases h2; rfl
        | 1, h1, h2 =>
          cases h1; cases h2
          refine ⟨a10, es10, ix10, rfl, ⟨⟨h10H, n90.symm⟩, by show (if (Hx a10).isNone = true then 1 else 0) = 1; rw [h10]; rfl⟩, h10E, ?_, ?_, tr_imp (fun i d x r => rt_mv mE (fun z => (st.someS z.1.1.1.1).1 rfl) (fun z => (st.someS z.1.1.1.1).2 rfl) (rt_Sd (fun b hb hb2 => ?_) r)) tru⟩
          · rw [pair_len pg]; have := okS.1; omega
          · rw [ek10, ← lkls, List.map_map]; rfl
          · refine ⟨⟨⟨⟨mx.back hb.1.1, fun z => ?_⟩, ?_⟩, hb.1.2⟩, hb.2⟩
            · exact hb2 (by rw [z]; exact hp9)
            · show (if (Hx b).isNone = true then 1 else 0) = 1
              rw [hb.1.1]; rfl
        | t + 2, h1, h2 => cases h1
end
end Pk

namespace Pk
open PySem PySem.Spec PyProof.Rows L2 Ssb
open Evl (Ex Ev EvT EvL EvA EvU)
def dT : D → String
  | .non => "NoneType" | .bl _ => "bool" | .int _ => "int" | .str _ => "str" | .lst _ => "list" | .tup _ => "tuple" | .dic _ => "dict"
theorem rep_ty {K : PySem.W.Frag} {H : Hp} {n : Nat} {S : Addr → Prop} {d : D} {v : V} (h : Rep H (n + 1) S d v) : TyOf K H v (.type (dT d)) := by
  cases d with
  | non => have e : v = .non := h; subst e; exact .non
  | bl b => have e : v = .bl b := h; subst e; exact .bl b
  | int i => have e : v = .int i := h; subst e; exact .int i
  | str s => have e : v = .str s := h; subst e; exact .str s
  | lst l => obtain ⟨a, xs, rfl, _, ha, _⟩ := h; exact .lst ha
  | tup l => obtain ⟨a, xs, rfl, ha, _⟩ := h; exact .tup ha
  | dic l => obtain ⟨a, es, rfl, _, ha, _⟩ := h; exact .dK ha
theorem ev_kind {K : PySem.W.Frag} {σ : L2.St} {H : Hp} {te : TE} {n : Nat} {S : Addr → Prop} {d : D} {v : V} {T : String} (b : Bool) (h : Ev te σ H v) (hr : Rep H (n + 1) S d v) (hk : kitB (dT d) T = some b) : Ev (tCB (rIsi K) (tCons te (tCons (tC (.ty T)) tNil))) σ H (.bl b) :=
  ev_isi h (fun H1 e1 => .base (rep_ty (rep_ex e1 hr))) (kit_ty hk)
/-- names of a dict are different, all the way down -/
def kn : Nat → D → Prop
  | n + 1, .lst l => ∀ x ∈ l, kn n x
  | n + 1, .tup l => ∀ x ∈ l, kn n x
  | n + 1, .dic l => (l.map (·.1)).Nodup ∧ ∀ p ∈ l, kn n p.2
  | _, _ => True
/-- and no tuples -/
def pl : Nat → D → Prop
  | n + 1, .lst l => ∀ x ∈ l, pl n x
  | _ + 1, .tup _ => False
  | _ + 1, .non => False
  | n + 1, .dic l => (l.map (·.1)).Nodup ∧ ∀ p ∈ l, pl n p.2
  | _, _ => True
theorem pl_kn : ∀ {n : Nat} {d : D}, pl n d → kn n d
  | 0, d, _ => by cases d <;> trivial
  | n + 1, .non, h => h.elim
  | n + 1, .bl _, _ => trivial
  | n + 1, .int _, _ => trivial
  | n + 1, .str _, _ => trivial
  | n + 1, .lst l, h => fun x hx => pl_kn (h x hx)
  | n + 1, .tup l, h => h.elim
  | n + 1, .dic l, h => ⟨h.1, fun p hp => pl_kn (h.2 p hp)⟩
end Pk

namespace Pk
open PySem PySem.Spec PyProof.Rows L2 Ssb
open Evl (Ex Ev EvT EvL EvA EvU)
theorem kit_list : ∀ t ∈ ["NoneType", "bool", "int", "str", "tuple", "dict"], kitB t "list" = some false := by decide +kernel
theorem kit_tuple : ∀ t ∈ ["NoneType", "bool", "int", "str", "list", "dict"], kitB t "tuple" = some false := by decide +kernel
theorem kit_dict : ∀ t ∈ ["NoneType", "bool", "int", "str", "list", "tuple"], kitB t "dict" = some false := by decide +kernel
def turn : Nat → D → D
  | n + 1, .lst l => .lst (l.map (turn n))
  | n + 1, .dic l => .dic ((l.map fun p => (p.1, turn n p.2)).reverse)
  | _, d => d
section
variable {P : Program} {w : World} {K : PySem.W.Frag} {mg : Str → Option Value} {base : Heap} {C_Shape C_InvalidData C_InvalidShape C_StayError : Addr}
def spCopyD (n : Nat) : Sp := fun vs H Q _ => ∃ (v : V) (P : Addr → Prop) (d : D), vs = [v] ∧ Rep H n P d v ∧ kn n d ∧ ∀ H' v', Ex H H' → Rep H' n (fun b => H b = none) d v' → Q v' H'
theorem ok__law_copyD (T : Txt K mg C_Shape C_InvalidData C_InvalidShape C_StayError) (R : Prg K mg C_Shape C_InvalidData C_InvalidShape C_StayError) : ∀ n, ∃ f fd, Fn P w K mg base "_law_copy" (n + 1) ["_law_value"] (spCopyD n) f fd
  | 0 => by
    obtain ⟨f, fd, at_, F, kp⟩ := R._law_copy
    refine ⟨f, fd, F.ok sc__law_copy (fun vs H Q E h => ?_) (fun cdv A outer s H vs Q E hr h => ?_), at_, kp, F.binds (fun _ _ _ _ _ _ us hl => match us, hl with | [_], _ => rfl)⟩
    · obtain ⟨v, P, d, rfl, _⟩ := h; rfl
    · obtain ⟨v, P, d, rfl, h, _⟩ := h; exact h.elim
  | n + 1 => by
    obtain ⟨_, _, G__law_copy⟩ := ok__law_copyD T R n
    obtain ⟨f, fd, at_, F, kp⟩ := R._law_copy
    refine ⟨f, fd, F.ok sc__law_copy (fun vs H Q E h => ?_) (fun cdv A outer s H vs Q E hr h => ?_), at_, kp, F.binds (fun _ _ _ _ _ _ us hl => match us, hl with | [_], _ => rfl)⟩
    · obtain ⟨v, P, d, rfl, _⟩ := h; rfl
    · obtain ⟨v, PP, d, rfl, hv, hkn, k⟩ := h
      refine ⟨_, (pss_cons (ps_if (pt_val (pe_callB (r := rIsi K) call_isi (by rfl) T.isinstance (by decide +kernel) (pa_cons (pv 0) (pa_cons (pe_bltn (v := .ty "list") (by rfl) T.list boot_list rfl) pa_nil)))) (pss_one (ps_ret (pe_lc (own := [("_law_part", 3)]) rfl sc__law_copy.nd (show PI _ _ _ (iList K _) from pi_list (pv 0)) (blkOk_by (own := [("_law_part", 3)]) (N := ["_law_value", "_law_result", "_law_key", "_law_part"]) (sc := defScope s__law_copy) (by decide +kernel)) (fun _ _ _ _ _ => (pg_name (i := 3) sc__law_copy.nd rfl (Or.inl rfl))) (fun _ _ _ _ _ => pts_nil) (fun _ _ _ _ _ => (pcl G__law_copy hr (pa_cons (pv 3) pa_nil)))))) pss_nil)
  (pss_cons (ps_if (pt_val (pe_callB (r := rIsi K) call_isi (by rfl) T.isinstance (by decide +kernel) (pa_cons (pv 0) (pa_cons (pe_bltn (v := .ty "tuple") (by rfl) T.tuple boot_tuple rfl) pa_nil)))) (pss_one (ps_ret (pe_callTy (r := rTupA K) call_tuple_of (by rfl) T.tuple (by decide +kernel) (pa_cons (pe_lc (own := [("_law_part", 3)]) rfl sc__law_copy.nd (show PI _ _ _ (iTup K _) from pi_tup (pv 0)) (blkOk_by (own := [("_law_part", 3)]) (N := ["_law_value", "_law_result", "_law_key", "_law_part"]) (sc := defScope s__law_copy) (by decide +kernel)) (fun _ _ _ _ _ => (pg_name (i := 3) sc__law_copy.nd rfl (Or.inl rfl))) (fun _ _ _ _ _ => pts_nil) (fun _ _ _ _ _ => (pcl G__law_copy hr (pa_cons (pv 3) pa_nil)))) pa_nil)))) pss_nil)
  (pss_cons (ps_if (pt_val (pe_callB (r := rIsi K) call_isi (by rfl) T.isinstance (by decide +kernel) (pa_cons (pv 0) (pa_cons (pe_bltn (v := .ty "dict") (by rfl) T.dict boot_dict rfl) pa_nil)))) (pss_cons (ps_set (i := 1) sc__law_copy.nd rfl (Or.inl rfl) pe_dnewK)
  (pss_cons (ps_lock (ps_for PassesOwn.never rfl (pi_keys (pv 0)) (pg_name (i := 2) sc__law_copy.nd rfl (Or.inl rfl))
    (pss_one (ps_dput (hu_of hr) (pv 1) (pv 2) (pcl G__law_copy hr (pa_cons (pe_dget (hu_of hr) (pv 0) (pv 2) (fun _ _ => rfl)) pa_nil)) rfl))))
  (pss_one (ps_ret (pv 1))))) pss_nil)
  (pss_one (ps_ret (pv 0)))))), ?_⟩
      -- a part of a list or a tuple
      have kidL : ∀ {l : List D} {xs : List V} {H1 : Hp} {Q2 : VK} {J : It}, Walk J xs.length (fun H' => Ex H1 H') (YAt xs) → xs.length ≤ 100000 → Paired (fun d x => Rep H1 n PP d x) l xs → (∀ x ∈ l, kn n x) → (∀ H' Dl ys, H1 Dl = none → Ex H1 H' → H' Dl = some (.lst ys) → Paired (fun d x => Rep H' n (fun b => H1 b = none ∧ b ≠ Dl) d x) l ys → Q2 (.ref Dl) H') →
          ∀ Dl, H1 Dl = none → ∃ W : Nat → Nat → Hp → Prop, (∃ m, W 0 m (upd H1 Dl (.lst []))) ∧ ∀ i m H, W i m H → (J.stop i H ∧ Q2 (.ref Dl) H) ∨ (J.go i H ∧ ∃ Nx : Hp → Prop, (∀ H', Nx H' → ∃ m', m' < m ∧ W (i + 1) m' H') ∧ ∀ x H', J.yld i H x H' → gName 3 x (wipe [some v, none, none, none] [3]) H' fun σ2 H2 => wipe σ2 [3] = wipe [some v, none, none, none] [3] ∧ tYes σ2 H2 fun b H3 =>
            if b = true then tCall (spCopyD n) [] E0 (tCons (tVar 3) tNil) σ2 H3 fun y H4 => ∃ acc, H4 Dl = some (.lst acc) ∧ acc.length < sizeLine ∧ Nx (upd H4 Dl (.lst (acc ++ [y]))) else Nx H3) := by
        intro l xs H1 Q2 J wk l5 pr hk q Dl hD
        refine lc_it wk (fun i H' => Ex H1 H' ∧ ∃ ys, H' Dl = some (.lst ys) ∧ Paired (fun d x => Rep H' n (fun b => H1 b = none ∧ b ≠ Dl) d x) (l.take i) ys) ⟨Ex.new hD, [], upd_same, .nil⟩ (fun i H' _ p => p.1) (fun i x H0 H' hi pv y => ?_) fun H' pv => ?_
        · obtain ⟨e, ys, hys, pys⟩ := pv
          obtain ⟨rfl, hx⟩ := y
          obtain ⟨dx, hdx, hrx⟩ := pair_back pr hx
          refine ⟨rfl, ?_⟩
          refine yes_go ?_
          refine ⟨_, rfl, x, PP, dx, rfl, rep_ex e hrx, hk _ (List.mem_of_getElem? hdx), fun H3 v3 e3 hr3 => ⟨ys, e3 _ _ hys, ?_, Ex.mut (e.trans e3) hD, ys ++ [v3], upd_same, ?_⟩⟩
          · rw [← pair_len pys, List.length_take]; exact Evl.sz_lt (by omega)
          · rw [take_snoc hdx]
            refine pair_snoc (pair_imp pys fun a b h => rep_upd (e3 _ _ hys) (fun _ z => nomatch z) (fun b z => z.2) (rep_ex e3 h)) (rep_upd (e3 _ _ hys) (fun _ z => nomatch z) (fun b z => z.2) (rep_S (fun b hb => ⟨Evl.fresh_back e hb, fun z => by rw [z, hys] at hb; cases hb⟩) hr3))
        · obtain ⟨e, ys, hys, pys⟩ := pv
          rw [← pair_len pr, List.take_of_length_le (Nat.le_refl _)] at pys
          exact q H' Dl ys hD e hys pys
      have leaf : ∀ {H1 : Hp}, Ex H H1 → (∀ l, d ≠ .lst l) → (∀ l, d ≠ .tup l) → (∀ l, d ≠ .dic l) → Q v H1 := fun {H1} e1 a b c => by
        refine k H1 v e1 ?_
        cases d with
        | lst l => exact absurd rfl (a l)
        | tup l => exact absurd rfl (b l)
        | dic l => exact absurd rfl (c l)
        | non => exact hv
        | bl b => exact hv
        | int i => exact hv
        | str s => exact hv
      have skip1 : (∀ l, d ≠ .lst l) → kitB (dT d) "list" = some false := fun a => by
        refine kit_list _ ?_
        cases d with
        | lst l => exact absurd rfl (a l)
        | _ => simp [dT]
      have skip2 : (∀ l, d ≠ .tup l) → kitB (dT d) "tuple" = some false := fun a => by
        refine kit_tuple _ ?_
        cases d with
        | tup l => exact absurd rfl (a l)
        | _ => simp [dT]
      have skip3 : (∀ l, d ≠ .dic l) → kitB (dT d) "dict" = some false := fun a => by
        refine kit_dict _ ?_
        cases d with
        | dic l => exact absurd rfl (a l)
        | _ => simp [dT]
      by_cases c1 : ∃ l, d = .lst l
      · obtain ⟨l, rfl⟩ := c1
        obtain ⟨a, xs, rfl, _, ha, l5, pr⟩ := id hv
        refine Evl.q_when (b := true) (Evl.et_B (ev_kind (d := .lst l) true (Evl.ev_var rfl) hv (show kitB "list" "list" = some true by decide +kernel))) (fun _ H1 e1 => ?_) (fun h => nomatch h)
        have hv1 := pair_imp pr fun a b h => rep_ex e1 h
        refine ⟨_, rfl, a, rfl, ⟨_, Evl.sq_of (e1 _ _ ha)⟩, kidL (walk_list.mono (fun H' e => Evl.sq_of (e _ _ (e1 _ _ ha))) fun i H v H' _ _ y => y) (by rw [← pair_len pr]; exact l5) hv1 hkn fun H' Dl ys hD e hys pys => ?_⟩
        exact k H' _ (e1.trans e) ⟨Dl, ys, rfl, Evl.fresh_back e1 hD, hys, l5, pair_imp pys fun a b h => rep_S (fun b hb => Evl.fresh_back e1 hb.1) h⟩
      have c1 : ∀ l, d ≠ .lst l := fun l e => c1 ⟨l, e⟩
      refine Evl.q_when (b := false) (Evl.et_B (ev_kind false (Evl.ev_var rfl) hv (skip1 c1))) (fun h => nomatch h) fun _ H1 e1 => ?_
      have hv1 := rep_ex e1 hv
      by_cases c2 : ∃ l, d = .tup l
      · obtain ⟨l, rfl⟩ := c2
        obtain ⟨a, xs, rfl, ha, l5, pr⟩ := id hv1
        refine Evl.q_when (b := true) (Evl.et_B (ev_kind (d := .tup l) true (Evl.ev_var rfl) hv1 (show kitB "tuple" "tuple" = some true by decide +kernel))) (fun _ H2 e2 => ?_) (fun h => nomatch h)
        have hv2 := pair_imp pr fun a b h => rep_ex e2 h
        have e12 := e1.trans e2
        refine ⟨_, rfl, a, rfl, ⟨_, Evl.st_of (e2 _ _ ha)⟩, kidL (Q2 := fun x H' => rTupA K [x] H' Q) (walk_tup.mono (fun H' e => Evl.st_of (e _ _ (e2 _ _ ha))) fun i H v H' _ _ y => y) (by rw [← pair_len pr]; exact l5) hv2 hkn fun H' Dl ys hD e hys pys => ?_⟩
        refine ⟨Dl, ys, rfl, .inl ⟨Evl.sq_of hys, fun t ht => ?_⟩⟩
        exact k _ _ (e12.trans (e.trans (Ex.new ht))) ⟨t, ys, rfl, upd_same, l5, pair_imp pys fun a b h => rep_ex (Ex.new ht) (rep_S (fun b hb => Evl.fresh_back e12 hb.1) h)⟩
      have c2 : ∀ l, d ≠ .tup l := fun l e => c2 ⟨l, e⟩
      refine Evl.q_when (b := false) (Evl.et_B (ev_kind false (Evl.ev_var rfl) hv1 (skip2 c2))) (fun h => nomatch h) fun _ H2 e2 => ?_
      have hv2 := rep_ex e2 hv1
      have e12 := e1.trans e2
      by_cases c3 : ∃ l, d = .dic l
      · obtain ⟨l, rfl⟩ := c3
        obtain ⟨a, es, rfl, _, ha, l5, pr⟩ := id hv2
        have ekeys := pair_keys pr
        have le := pair_len pr
        refine Evl.q_when (b := true) (Evl.et_B (ev_kind (d := .dic l) true (Evl.ev_var rfl) hv2 (show kitB "dict" "dict" = some true by decide +kernel))) (fun _ H3 e3 => ?_) (fun h => nomatch h)
        have ha3 := e3 _ _ ha
        have e13 := e12.trans e3
        intro a1 h1
        have n1a : a1 ≠ a := fun e => by rw [e, ha3] at h1; cases h1
        refine for_lock (J := fun od => Itk a od es) (xs := fun _ => none) (d := a) (es := es) (by rw [upd_ne n1a.symm]; exact ha3) (fun od R r => ⟨_, rfl, a, od, rfl, .inl ⟨es, upd_same, r⟩⟩) (fun od => walk_keys) (fun od j σ' H' => ∃ (es' : List (Key × V)) (o2 : Option V), σ' = [some (.ref a), some (.ref a1), o2, none] ∧ Ex (upd H3 a (.frz od (.dK es))) H' ∧ H' a1 = some (.dK es') ∧ Paired (fun (x : Str × D) (e : Key × V) => e.1 = Sum.inr x.1 ∧ Rep H' n (fun b => H3 b = none ∧ b ≠ a1) x.2 e.2) (l.take j) es')
          (fun od => ⟨[], _, rfl, fun b o hb => ?_, by rw [upd_ne n1a]; exact upd_same, .nil⟩) (fun od j σ' H' _ ⟨_, _, _, e, _⟩ => e _ _ upd_same) (fun od j x σ' H0 H' hlt pv y => ?_) fun od σ' H' pv => ?_
        · by_cases e : b = a
          · rw [e] at hb ⊢; rw [upd_same] at hb ⊢; exact hb
          · rw [upd_ne e] at hb ⊢
            have : b ≠ a1 := fun z => by rw [z, h1] at hb; cases hb
            rw [upd_ne this]; exact hb
        · obtain ⟨es', o2, rfl, e, h1', pes⟩ := pv
          obtain ⟨rfl, kk, vj, hkv, rfl⟩ := y
          obtain ⟨⟨nm, dj⟩, hdj, hk, hrj⟩ := pair_back pr hkv
          have hk : kk = Sum.inr nm := hk
          subst hk
          have hvj : valV es (Sum.inr nm : Key) = some vj := valV_at (by rw [ekeys]; exact inr_nd hkn.1) hkv
          have hrj' := rep_in ha3 e (rep_ex e3 hrj)
          refine ⟨_, rfl, _, rfl, a, vj, rfl, .inl ⟨es, Sum.inr nm, .inr ⟨od, e _ _ upd_same⟩, rfl, hvj.symm⟩, vj, _, dj, rfl, hrj', hkn.2 _ (List.mem_of_getElem? hdj), fun H4 v4 e4 hr4 => ?_⟩
          have nv : valV es' (Sum.inr nm : Key) = none := vV_no (by rw [pair_keys pes, List.map_take]; exact inr_not (not_take hkn.1 (by rw [List.getElem?_map, hdj]; rfl)))
          refine ⟨_, rfl, _, rfl, a1, _, rfl, .inl ⟨es', Sum.inr nm, e4 _ _ h1', rfl, ?_, rfl⟩, es' ++ [(Sum.inr nm, v4)], _, rfl, Ex.mut (e.trans e4) (by rw [upd_ne n1a]; exact h1), by rw [upd_same, putK_new _ nv], ?_⟩
          · rw [← pair_len pes, List.length_take]; exact Evl.sz_lt (by omega)
          · rw [take_snoc hdj]
            have back : ∀ b, H' b = none → H3 b = none := fun b hb => by
              have := Evl.fresh_back e hb
              by_cases z : b = a
              · rw [z, upd_same] at this; cases this
              · rw [upd_ne z] at this; exact this
            exact pair_snoc (pair_imp pes fun a b h => ⟨h.1, rep_upd (e4 _ _ h1') (fun _ z => nomatch z) (fun b z => z.2) (rep_ex e4 h.2)⟩) ⟨rfl, rep_upd (e4 _ _ h1') (fun _ z => nomatch z) (fun b z => z.2) (rep_S (fun b hb => ⟨back b hb, fun z => by rw [z, h1'] at hb; cases hb⟩) hr4)⟩
        · obtain ⟨es', o2, rfl, e, h1', pes⟩ := pv
          rw [← le, List.take_of_length_le (Nat.le_refl _)] at pes
          have eu : Ex H3 (upd H' a (.dK es)) := unlock ha3 e
          refine Evl.s_ret (Evl.ev_var rfl) fun H7 e7 => k H7 _ (e13.trans (eu.trans e7)) (rep_ex e7 ⟨a1, es', rfl, Evl.fresh_back e13 h1, by rw [upd_ne n1a]; exact h1', l5, pair_imp pes fun x en h => ⟨h.1, ?_⟩⟩)
          refine rep_S (fun b hb => ⟨Evl.fresh_back e13 hb.1, hb.2⟩) (rep_upd (e _ _ upd_same) (fun _ z => nomatch z) (fun b z ez => ?_) h.2)
          rw [ez] at z
          rw [ha3] at z
          exact nomatch z.1
      have c3 : ∀ l, d ≠ .dic l := fun l e => c3 ⟨l, e⟩
      refine Evl.q_when (b := false) (Evl.et_B (ev_kind false (Evl.ev_var rfl) hv2 (skip3 c3))) (fun h => nomatch h) fun _ H3 e3 => Evl.s_ret (Evl.ev_var rfl) fun H4 e4 => leaf (e12.trans (e3.trans e4)) c1 c2 c3
end
end Pk

namespace Pk
open PySem PySem.Spec PyProof.Rows L2 Ssb
open Evl (Ex Ev EvT EvL EvA EvU)
def sameD : Nat → D → D → Prop
  | n + 1, d1, .bl b => d1 = .bl b
  | n + 1, d1, .int i => d1 = .int i
  | n + 1, d1, .str s => d1 = .str s
  | n + 1, d1, .lst l2 => ∃ l1, d1 = .lst l1 ∧ Paired (fun x y => sameD n x y) l1 l2
  | n + 1, d1, .dic l2 => ∃ l1, d1 = .dic l1 ∧ l1.length = l2.length ∧ (l2.map (·.1)).Nodup ∧ ∀ p ∈ l2, ∃ x, l1.lookup p.1 = some x ∧ sameD n x p.2
  | _, _, _ => False
section
variable {P : Program} {w : World} {K : PySem.W.Frag} {mg : Str → Option Value} {base : Heap} {C_Shape C_InvalidData C_InvalidShape C_StayError : Addr}
def spTurn (n : Nat) : Sp := fun vs H Q _ => ∃ (v : V) (P : Addr → Prop) (d : D), vs = [v] ∧ Rep H n P d v ∧ pl n d ∧ ∀ H' v', Ex H H' → Rep H' n (fun b => H b = none) (turn n d) v' → Q v' H'
theorem ok__law_turned (T : Txt K mg C_Shape C_InvalidData C_InvalidShape C_StayError) (R : Prg K mg C_Shape C_InvalidData C_InvalidShape C_StayError) : ∀ n, ∃ f fd, Fn P w K mg base "_law_turned" (n + 1) ["_law_value"] (spTurn n) f fd
  | 0 => by
    obtain ⟨f, fd, at_, F, kp⟩ := R._law_turned
    refine ⟨f, fd, F.ok sc__law_turned (fun vs H Q E h => ?_) (fun cdv A outer s H vs Q E hr h => ?_), at_, kp, F.binds (fun _ _ _ _ _ _ us hl => match us, hl with | [_], _ => rfl)⟩
    · obtain ⟨v, P, d, rfl, _⟩ := h; rfl
    · obtain ⟨v, P, d, rfl, h, _⟩ := h; exact h.elim
  | n + 1 => by
    obtain ⟨_, _, G__law_turned⟩ := ok__law_turned T R n
    obtain ⟨f, fd, at_, F, kp⟩ := R._law_turned
    refine ⟨f, fd, F.ok sc__law_turned (fun vs H Q E h => ?_) (fun cdv A outer s H vs Q E hr h => ?_), at_, kp, F.binds (fun _ _ _ _ _ _ us hl => match us, hl with | [_], _ => rfl)⟩
    · obtain ⟨v, P, d, rfl, _⟩ := h; rfl
    · obtain ⟨v, PP, d, rfl, hv, hkn, k⟩ := h
      refine ⟨_, (pss_cons (ps_if (pt_val (pe_callB (r := rIsi K) call_isi (by rfl) T.isinstance (by decide +kernel) (pa_cons (pv 0) (pa_cons (pe_bltn (v := .ty "list") (by rfl) T.list boot_list rfl) pa_nil)))) (pss_one (ps_ret (pe_lc (own := [("_law_part", 3)]) rfl sc__law_turned.nd (show PI _ _ _ (iList K _) from pi_list (pv 0)) (blkOk_by (own := [("_law_part", 3)]) (N := ["_law_value", "_law_result", "_law_key", "_law_part"]) (sc := defScope s__law_turned) (by decide +kernel)) (fun _ _ _ _ _ => (pg_name (i := 3) sc__law_turned.nd rfl (Or.inl rfl))) (fun _ _ _ _ _ => pts_nil) (fun _ _ _ _ _ => (pcl G__law_turned hr (pa_cons (pv 3) pa_nil)))))) pss_nil)
  (pss_cons (ps_if (pt_val (pe_callB (r := rIsi K) call_isi (by rfl) T.isinstance (by decide +kernel) (pa_cons (pv 0) (pa_cons (pe_bltn (v := .ty "dict") (by rfl) T.dict boot_dict rfl) pa_nil)))) (pss_cons (ps_set (i := 1) sc__law_turned.nd rfl (Or.inl rfl) pe_dnewK)
  (pss_cons (ps_for PassesOwn.never rfl (pi_reversed (by rfl) T.reversed (pa_cons (pe_callTy (call_listD rfl) (by rfl) T.list (by decide +kernel) (pa_cons (pv 0) pa_nil)) pa_nil)) (pg_name (i := 2) sc__law_turned.nd rfl (Or.inl rfl))
    (pss_one (ps_dput (hu_of hr) (pv 1) (pv 2) (pcl G__law_turned hr (pa_cons (pe_dget (hu_of hr) (pv 0) (pv 2) (fun _ _ => rfl)) pa_nil)) rfl)))
  (pss_one (ps_ret (pv 1))))) pss_nil)
  (pss_one (ps_ret (pv 0))))), ?_⟩
      have kidL : ∀ {l : List D} {xs : List V} {H1 : Hp} {Q2 : VK} {J : It}, Walk J xs.length (fun H' => Ex H1 H') (YAt xs) → xs.length ≤ 100000 → Paired (fun d x => Rep H1 n PP d x) l xs → (∀ x ∈ l, pl n x) → (∀ H' Dl ys, H1 Dl = none → Ex H1 H' → H' Dl = some (.lst ys) → Paired (fun d x => Rep H' n (fun b => H1 b = none ∧ b ≠ Dl) d x) (l.map (turn n)) ys → Q2 (.ref Dl) H') →
          ∀ Dl, H1 Dl = none → ∃ W : Nat → Nat → Hp → Prop, (∃ m, W 0 m (upd H1 Dl (.lst []))) ∧ ∀ i m H, W i m H → (J.stop i H ∧ Q2 (.ref Dl) H) ∨ (J.go i H ∧ ∃ Nx : Hp → Prop, (∀ H', Nx H' → ∃ m', m' < m ∧ W (i + 1) m' H') ∧ ∀ x H', J.yld i H x H' → gName 3 x (wipe [some v, none, none, none] [3]) H' fun σ2 H2 => wipe σ2 [3] = wipe [some v, none, none, none] [3] ∧ tYes σ2 H2 fun b H3 =>
            if b = true then tCall (spTurn n) [] E0 (tCons (tVar 3) tNil) σ2 H3 fun y H4 => ∃ acc, H4 Dl = some (.lst acc) ∧ acc.length < sizeLine ∧ Nx (upd H4 Dl (.lst (acc ++ [y]))) else Nx H3) := by
        intro l xs H1 Q2 J wk l5 pr hk q Dl hD
        refine lc_it wk (fun i H' => Ex H1 H' ∧ ∃ ys, H' Dl = some (.lst ys) ∧ Paired (fun d x => Rep H' n (fun b => H1 b = none ∧ b ≠ Dl) d x) ((l.map (turn n)).take i) ys) ⟨Ex.new hD, [], upd_same, .nil⟩ (fun i H' _ p => p.1) (fun i x H0 H' hi pv y => ?_) fun H' pv => ?_
        · obtain ⟨e, ys, hys, pys⟩ := pv
          obtain ⟨rfl, hx⟩ := y
          obtain ⟨dx, hdx, hrx⟩ := pair_back pr hx
          refine ⟨rfl, ?_⟩
          refine yes_go ?_
          refine ⟨_, rfl, x, PP, dx, rfl, rep_ex e hrx, hk _ (List.mem_of_getElem? hdx), fun H3 v3 e3 hr3 => ⟨ys, e3 _ _ hys, ?_, Ex.mut (e.trans e3) hD, ys ++ [v3], upd_same, ?_⟩⟩
          · rw [← pair_len pys, List.length_take]; exact Evl.sz_lt (by omega)
          · rw [take_snoc (show (l.map (turn n))[i]? = some (turn n dx) by rw [List.getElem?_map, hdx]; rfl)]
            refine pair_snoc (pair_imp pys fun a b h => rep_upd (e3 _ _ hys) (fun _ z => nomatch z) (fun b z => z.2) (rep_ex e3 h)) (rep_upd (e3 _ _ hys) (fun _ z => nomatch z) (fun b z => z.2) (rep_S (fun b hb => ⟨Evl.fresh_back e hb, fun z => by rw [z, hys] at hb; cases hb⟩) hr3))
        · obtain ⟨e, ys, hys, pys⟩ := pv
          rw [← pair_len pr, List.take_of_length_le (by rw [List.length_map]; exact Nat.le_refl _)] at pys
          exact q H' Dl ys hD e hys pys
      have skip1 : (∀ l, d ≠ .lst l) → kitB (dT d) "list" = some false := fun a => by
        refine kit_list _ ?_
        cases d with
        | lst l => exact absurd rfl (a l)
        | _ => simp [dT]
      have skip3 : (∀ l, d ≠ .dic l) → kitB (dT d) "dict" = some false := fun a => by
        refine kit_dict _ ?_
        cases d with
        | dic l => exact absurd rfl (a l)
        | _ => simp [dT]
      by_cases c1 : ∃ l, d = .lst l
      · obtain ⟨l, rfl⟩ := c1
        obtain ⟨a, xs, rfl, _, ha, l5, pr⟩ := id hv
        refine Evl.q_when (b := true) (Evl.et_B (ev_kind (d := .lst l) true (Evl.ev_var rfl) hv (show kitB "list" "list" = some true by decide +kernel))) (fun _ H1 e1 => ?_) (fun h => nomatch h)
        have hv1 := pair_imp pr fun a b h => rep_ex e1 h
        refine ⟨_, rfl, a, rfl, ⟨_, Evl.sq_of (e1 _ _ ha)⟩, kidL (walk_list.mono (fun H' e => Evl.sq_of (e _ _ (e1 _ _ ha))) fun i H v H' _ _ y => y) (by rw [← pair_len pr]; exact l5) hv1 hkn fun H' Dl ys hD e hys pys => ?_⟩
        exact k H' _ (e1.trans e) ⟨Dl, ys, rfl, Evl.fresh_back e1 hD, hys, by rw [List.length_map]; exact l5, pair_imp pys fun a b h => rep_S (fun b hb => Evl.fresh_back e1 hb.1) h⟩
      have c1 : ∀ l, d ≠ .lst l := fun l e => c1 ⟨l, e⟩
      refine Evl.q_when (b := false) (Evl.et_B (ev_kind false (Evl.ev_var rfl) hv (skip1 c1))) (fun h => nomatch h) fun _ H1 e12 => ?_
      have hv2 := rep_ex e12 hv
      by_cases c3 : ∃ l, d = .dic l
      · obtain ⟨l, rfl⟩ := c3
        obtain ⟨a, es, rfl, _, ha, l5, pr⟩ := id hv2
        have ekeys := pair_keys pr
        have le := pair_len pr
        refine Evl.q_when (b := true) (Evl.et_B (ev_kind (d := .dic l) true (Evl.ev_var rfl) hv2 (show kitB "dict" "dict" = some true by decide +kernel))) (fun _ H3 e3 => ?_) (fun h => nomatch h)
        have ha3 := e3 _ _ ha
        have e13 := e12.trans e3
        intro a1 h1
        have n1a : a1 ≠ a := fun e => by rw [e, ha3] at h1; cases h1
        refine ⟨_, rfl, a, es, rfl, .inl (by rw [upd_ne n1a.symm]; exact ha3), fun p hp => ⟨p, _, rfl, Evl.sq_of upd_same, ?_⟩⟩
        have np1 : p ≠ a1 := fun e => by rw [e, upd_same] at hp; cases hp
        have e4 : Ex H3 (upd (upd H3 a1 (.dK [])) p (.lst (es.map fun kv => kV kv.1))) := (Ex.new h1).trans (Ex.new hp)
        have hp3 : H3 p = none := Evl.fresh_back (Ex.new h1) hp
        refine for_it walk_rev (fun j σ' H' => ∃ (es' : List (Key × V)) (o2 : Option V), σ' = [some (.ref a), some (.ref a1), o2, none] ∧ Ex H3 H' ∧ H' p = some (.lst (es.map fun kv => kV kv.1)) ∧ H' a1 = some (.dK es') ∧ Paired (fun (x : Str × D) (e : Key × V) => e.1 = Sum.inr x.1 ∧ Rep H' n (fun b => H3 b = none ∧ b ≠ a1) x.2 e.2) (((l.map fun p => (p.1, turn n p.2)).reverse).take j) es')
          ⟨[], _, rfl, e4, upd_same, by rw [upd_ne np1.symm]; exact upd_same, .nil⟩ (fun j σ' H' _ ⟨_, _, _, _, h, _⟩ => Evl.sq_of h) (fun j x σ' H0 H' hj pv y => ?_) fun σ' H' pv => ?_
        · obtain ⟨es', o2, rfl, e, hpH, h1', pes⟩ := pv
          obtain ⟨rfl, hx⟩ := y
          rw [List.length_map] at hj hx
          rw [List.getElem?_map] at hx
          cases hkv : es[es.length - 1 - j]? with
          | none => rw [hkv] at hx; cases hx
          | some kv =>
          rw [hkv] at hx
          obtain ⟨kk, vj⟩ := kv
          cases hx
          obtain ⟨⟨nm, dj⟩, hdj, hk, hrj⟩ := pair_back pr hkv
          have hk : kk = Sum.inr nm := hk
          subst hk
          have hrev : ((l.map fun p => (p.1, turn n p.2)).reverse)[j]? = some (nm, turn n dj) := by
            rw [List.getElem?_reverse (by rw [List.length_map]; omega), List.getElem?_map, List.length_map, le, hdj]; rfl
          have rnd : (((l.map fun p => (p.1, turn n p.2)).reverse).map (·.1)).Nodup := by
            rw [List.map_reverse, List.map_map]
            exact (List.reverse_perm _).nodup_iff.mpr hkn.1
          have hvj : valV es (Sum.inr nm : Key) = some vj := valV_at (by rw [ekeys]; exact inr_nd hkn.1) hkv
          have hrj' := rep_ex e (rep_ex e3 hrj)
          refine ⟨_, rfl, _, rfl, a, vj, rfl, .inl ⟨es, Sum.inr nm, .inl (e _ _ ha3), rfl, hvj.symm⟩, vj, _, dj, rfl, hrj', hkn.2 _ (List.mem_of_getElem? hdj), fun H4 v4 e4 hr4 => ?_⟩
          have nv : valV es' (Sum.inr nm : Key) = none := vV_no (by rw [pair_keys pes, List.map_take]; exact inr_not (not_take rnd (by rw [List.getElem?_map, hrev]; rfl)))
          refine ⟨_, rfl, _, rfl, a1, _, rfl, .inl ⟨es', Sum.inr nm, e4 _ _ h1', rfl, ?_, rfl⟩, es' ++ [(Sum.inr nm, v4)], _, rfl, Ex.mut (e.trans e4) h1, by rw [upd_ne np1]; exact e4 _ _ hpH, by rw [upd_same, putK_new _ nv], ?_⟩
          · rw [← pair_len pes, List.length_take]; exact Evl.sz_lt (by omega)
          · rw [take_snoc hrev]
            exact pair_snoc (pair_imp pes fun a b h => ⟨h.1, rep_upd (e4 _ _ h1') (fun _ z => nomatch z) (fun b z => z.2) (rep_ex e4 h.2)⟩) ⟨rfl, rep_upd (e4 _ _ h1') (fun _ z => nomatch z) (fun b z => z.2) (rep_S (fun b hb => ⟨Evl.fresh_back e hb, fun z => by rw [z, h1'] at hb; cases hb⟩) hr4)⟩
        · obtain ⟨es', o2, rfl, e, hpH, h1', pes⟩ := pv
          rw [List.length_map, ← le, List.take_of_length_le (by rw [List.length_reverse, List.length_map]; exact Nat.le_refl _)] at pes
          exact Evl.s_ret (Evl.ev_var rfl) fun H7 e7 => k H7 _ (e13.trans (e.trans e7)) (rep_ex e7 ⟨a1, es', rfl, Evl.fresh_back e13 h1, h1', by rw [List.length_reverse, List.length_map]; exact l5, pair_imp pes fun x en h => ⟨h.1, rep_S (fun b hb => ⟨Evl.fresh_back e13 hb.1, hb.2⟩) h.2⟩⟩)
      have c3 : ∀ l, d ≠ .dic l := fun l e => c3 ⟨l, e⟩
      refine Evl.q_when (b := false) (Evl.et_B (ev_kind false (Evl.ev_var rfl) hv2 (skip3 c3))) (fun h => nomatch h) fun _ H3 e3 => Evl.s_ret (Evl.ev_var rfl) fun H4 e4 => ?_
      refine k H4 v (e12.trans (e3.trans e4)) ?_
      cases d with
      | lst l => exact absurd rfl (c1 l)
      | tup l => exact hkn.elim
      | dic l => exact absurd rfl (c3 l)
      | non => exact hv
      | bl b => exact hv
      | int i => exact hv
      | str s => exact hv
end
end Pk

namespace Pk
open PySem PySem.Spec PyProof.Rows L2 Ssb
open Evl (Ex Ev EvT EvL EvA EvU)
/-! ### what the checks say of any datum -/
def wdS (s : Str) : Bool := (decide (1 ≤ s.length) && decide (s.length ≤ 8)) && s.cps.toList.all fun c => decide (97 ≤ c) && decide (c ≤ 122)
def wdG : G → Bool
  | .str s => wdS s
  | _ => false
def wdK : Key → Bool
  | .inr s => wdS s
  | .inl _ => false
theorem wdG_k (k : Key) : wdG (kG k) = wdK k := by cases k <;> rfl
def strG : G → Option Str
  | .str s => some s
  | _ => none
def strsG (l : List G) : List Str := l.filterMap strG
def wordsL (l : List G) (lo hi : Int) : Bool := (decide (lo ≤ (l.length : Int)) && decide ((l.length : Int) ≤ hi)) && (l.all wdG && decide (strsG l).Nodup)
def itsG : G → Option (List G)
  | .lst l => some l
  | .tup l => some l
  | _ => none
def dicG : G → Option (List KG)
  | .dic l => some l
  | _ => none
def wordsG (g : G) (lo hi : Int) : Bool := ((itsG g).map fun l => wordsL l lo hi).getD false
def hasN (g : G) (ns : List Str) : Bool := ((dicG g).map fun l => decide (l.length = ns.length) && ns.all fun n => (lkG l (Sum.inr n)).isSome).getD false
def named (g : G) (most : Int) : Bool := ((dicG g).map fun l => decide ((l.length : Int) ≤ most) && l.all fun p => wdK p.1).getD false
theorem le_dec {a b : Nat} : (!decide ([b] < [a])) = decide (a ≤ b) := by
  by_cases h : a ≤ b
  · rw [decide_eq_true h]
    have : ¬ ([b] < [a]) := fun z => by
      rcases List.cons_lt_cons_iff.mp z with z | z
      · omega
      · exact absurd z.2 (by simp)
    simp [this]
  · rw [decide_eq_false h]
    have : [b] < [a] := List.cons_lt_cons_iff.mpr (.inl (by omega))
    simp [this]
theorem words_strs : ∀ {l : List G}, l.all wdG = true → l = (strsG l).map .str
  | [], _ => rfl
  | g :: l, h => by
    simp only [List.all_cons, Bool.and_eq_true] at h
    have ih := words_strs h.2
    cases g with
    | str s => show _ = G.str s :: (strsG l).map .str; rw [← ih]
    | _ => exact absurd h.1 (by simp [wdG])
theorem met_len_eq {l : List Str} : decide ((met [] l).length = l.length) = decide l.Nodup := by
  by_cases h : l.Nodup
  · rw [decide_eq_true h, met_nodup l [] (by simpa using h)]; simp
  · rw [decide_eq_false h]
    refine decide_eq_false fun e => h ?_
    have key : ∀ (l acc : List Str), acc.Nodup → (met acc l).length = acc.length + l.length → (acc ++ l).Nodup := by
      intro l
      induction l with
      | nil => intro acc ha _; simpa using ha
      | cons x l ih =>
        intro acc ha hl
        have e1 : met acc (x :: l) = met (put1 acc x) l := rfl
        rw [e1] at hl
        have b1 := met_len l (put1 acc x)
        have b2 := put1_len acc x
        simp only [List.length_cons] at hl
        have hp : (put1 acc x).length = acc.length + 1 := by omega
        have hx : x ∉ acc := fun hm => by
          unfold put1 at hp; rw [if_pos hm] at hp; omega
        have ep : put1 acc x = acc ++ [x] := by unfold put1; rw [if_neg hx]
        rw [ep] at hl
        have := ih (acc ++ [x]) (List.nodup_append.mpr ⟨ha, by simp, fun a h1 b h2 => by rw [List.mem_singleton.mp h2]; exact fun z => hx (z ▸ h1)⟩) (by rw [hl, List.length_append, List.length_singleton]; omega)
        simpa using this
    have := key l [] List.nodup_nil (by simpa using e)
    simpa using this
/-! ### walks over a list or a tuple -/
def iSeq (K : PySem.W.Frag) (te : TE) : TI := fun σ H R => iList K te σ H R ∨ iTup K te σ H R
theorem pi_seq {X : Cx} {tg e : Expr} {te : TE} (he : PE X e te) : PI X tg e (iSeq X.K te) := ⟨fun pins s σ H R I h => h.elim (fun h => (pi_list he).run pins s σ H R I h) fun h => (pi_tup he).run pins s σ H R I h⟩
theorem el_lcQ {K : PySem.W.Frag} {σ : L2.St} {H : Hp} {te tl : TE} {vs : List Nat} {j : Nat} {f : Nat → V} {a : Addr} {xs : List V} (h : Ev tl σ H (.ref a)) (hx : SqL K H a xs ∨ SqT K H a xs) (hz : xs.length ≤ 100000) (hw : ∀ x, wipe ((wipe σ vs).set j (some x)) vs = wipe σ vs)
    (he : ∀ (i : Nat) (x : V), xs[i]? = some x → ∀ H2, Ex H H2 → Ev te ((wipe σ vs).set j (some x)) H2 (f i)) : EvL (tLc (iSeq K tl) (gName j) tYes te vs) σ H ((List.range xs.length).map f) := fun H1 e Q q =>
  hx.elim (fun hx => Or.inl (el_lcA h hx hz hw he H1 e Q q)) fun hx => Or.inr (el_lcT h hx hz hw he H1 e Q q)
theorem map_rangeB {α : Type} {f : Nat → Bool} {g : α → Bool} {l : List α} (h : ∀ (i : Nat) (a : α), l[i]? = some a → f i = g a) : ((List.range l.length).map fun i => V.bl (f i)) = (l.map g).map V.bl := by
  refine List.ext_getElem? fun i => ?_
  rw [List.getElem?_map, List.getElem?_map, List.getElem?_map]
  by_cases hi : i < l.length
  · rw [List.getElem?_range hi, List.getElem?_eq_getElem hi]
    exact congrArg (fun b => some (V.bl b)) (h i _ (List.getElem?_eq_getElem hi))
  · rw [List.getElem?_eq_none_iff.mpr (by rw [List.length_range]; omega), List.getElem?_eq_none_iff.mpr (by omega)]; rfl
theorem all_id {α : Type} (g : α → Bool) : ∀ l : List α, (l.map g).all id = l.all g
  | [] => rfl
  | a :: l => by rw [List.map_cons, List.all_cons, List.all_cons, all_id g l]; rfl
/-- all of a list of tests -/
theorem ev_allG {K : PySem.W.Frag} {σ : L2.St} {H : Hp} {te : TE} {α : Type} {l : List α} {n : Nat} {f : Nat → Bool} {g : α → Bool} (hn : n = l.length) (h : EvL te σ H ((List.range n).map fun i => V.bl (f i))) (hf : ∀ (i : Nat) (a : α), l[i]? = some a → f i = g a) : Ev (tCB (rAll K) (tCons te tNil)) σ H (.bl (l.all g)) := by
  subst hn
  rw [map_rangeB hf] at h
  exact Evl.ev_is (ev_all h) (by rw [all_id])
/-- what a def says: a value that hangs on pure facts alone -/
def spB (pre : List V → Hp → Bool → Prop) : Sp := fun vs H Q _ => ∃ b, pre vs H b ∧ ∀ H', Ex H H' → Q (.bl b) H'
theorem spB_ev {pre : List V → Hp → Bool → Prop} {vs : List V} {ta : TA} {σ : L2.St} {H : Hp} {b : Bool} (h : EvA ta σ H vs) (hp : ∀ H1, Ex H H1 → pre vs H1 b) : Ev (tCall (spB pre) [] E0 ta) σ H (.bl b) := ev_fn h fun H1 e Q q => ⟨b, hp H1 e, q⟩
/-- the datum at a name of a dict -/
def atG (g : G) (k : Str) : G := ((dicG g).bind fun l => lkG l (Sum.inr k)).getD .non
def shapesG (g : G) (most : Int) : Bool := named g most && ((dicG g).map fun l => l.all fun p => hasN p.2 ["fields", "inner"]).getD false
def fieldG (g : G) : Bool := isK g "tuple" && wordsG g 2 3
def fieldsG (g : G) : Bool := named g 2 && ((dicG g).map fun l => l.all fun p => fieldG p.2).getD false
theorem isK_dic (g : G) : isK g "dict" = (dicG g).isSome := by
  cases g with
  | non => exact (show (kitB "NoneType" "dict").getD false = false by decide +kernel)
  | bl b => exact (show (kitB "bool" "dict").getD false = false by decide +kernel)
  | int b => exact (show (kitB "int" "dict").getD false = false by decide +kernel)
  | str b => exact (show (kitB "str" "dict").getD false = false by decide +kernel)
  | lst b => exact (show (kitB "list" "dict").getD false = false by decide +kernel)
  | tup b => exact (show (kitB "tuple" "dict").getD false = false by decide +kernel)
  | dic b => exact (show (kitB "dict" "dict").getD false = true by decide +kernel)
def isTupG : G → Bool
  | .tup _ => true
  | _ => false
def isLstG : G → Bool
  | .lst _ => true
  | _ => false
def isStrG : G → Bool
  | .str _ => true
  | _ => false
theorem isK_str (g : G) : isK g "str" = isStrG g := by
  cases g with
  | non => exact (show (kitB "NoneType" "str").getD false = false by decide +kernel)
  | bl b => exact (show (kitB "bool" "str").getD false = false by decide +kernel)
  | int b => exact (show (kitB "int" "str").getD false = false by decide +kernel)
  | str b => exact (show (kitB "str" "str").getD false = true by decide +kernel)
  | lst b => exact (show (kitB "list" "str").getD false = false by decide +kernel)
  | tup b => exact (show (kitB "tuple" "str").getD false = false by decide +kernel)
  | dic b => exact (show (kitB "dict" "str").getD false = false by decide +kernel)
theorem isK_tup (g : G) : isK g "tuple" = isTupG g := by
  cases g with
  | non => exact (show (kitB "NoneType" "tuple").getD false = false by decide +kernel)
  | bl b => exact (show (kitB "bool" "tuple").getD false = false by decide +kernel)
  | int b => exact (show (kitB "int" "tuple").getD false = false by decide +kernel)
  | str b => exact (show (kitB "str" "tuple").getD false = false by decide +kernel)
  | lst b => exact (show (kitB "list" "tuple").getD false = false by decide +kernel)
  | tup b => exact (show (kitB "tuple" "tuple").getD false = true by decide +kernel)
  | dic b => exact (show (kitB "dict" "tuple").getD false = false by decide +kernel)
theorem isK_lst (g : G) : isK g "list" = isLstG g := by
  cases g with
  | non => exact (show (kitB "NoneType" "list").getD false = false by decide +kernel)
  | bl b => exact (show (kitB "bool" "list").getD false = false by decide +kernel)
  | int b => exact (show (kitB "int" "list").getD false = false by decide +kernel)
  | str b => exact (show (kitB "str" "list").getD false = false by decide +kernel)
  | lst b => exact (show (kitB "list" "list").getD false = true by decide +kernel)
  | tup b => exact (show (kitB "tuple" "list").getD false = false by decide +kernel)
  | dic b => exact (show (kitB "dict" "list").getD false = false by decide +kernel)
/-- a dict as it stands -/
theorem rp_dic {H : Hp} {m n : Nat} {S : Addr → Prop} {l : List KG} {v : V} (h : Rp H m n S (.dic l) v) : ∃ k a es, n = k + 1 ∧ v = .ref a ∧ S a ∧ H a = some (.dK es) ∧ l.length ≤ m ∧ es.length = l.length ∧ okK m l ∧ (es.map fun e : Key × V => e.1) = (l.map fun p : KG => p.1) ∧ Paired (fun (q : KG) (e : Key × V) => e.1 = q.1 ∧ Rp H m k (fun b => S b ∧ b ≠ a) q.2 e.2) l es := by
  obtain ⟨k, rfl⟩ := rp_pos h
  obtain ⟨a, es, e, s, ha, hl, ok, p⟩ := h
  exact ⟨k, a, es, rfl, e, s, ha, hl, (pair_len p).symm, ok, pair_keysG p, p⟩
theorem vG_some {F : G → V → Prop} {l : List KG} {es : List (Key × V)} (p : Paired (fun (q : KG) (e : Key × V) => e.1 = q.1 ∧ F q.2 e.2) l es) (k : Key) : (valV es k).isSome = (lkG l k).isSome := by
  rcases pair_lkG p k with ⟨d, v, h1, h2, _⟩ | ⟨h1, h2⟩
  · rw [h1, h2]; rfl
  · rw [h1, h2]; rfl
/-- what stands at a name that is there -/
theorem rp_get {H : Hp} {m n : Nat} {S : Addr → Prop} {l : List KG} {es : List (Key × V)} {a : Addr} {k : Str} (p : Paired (fun (q : KG) (e : Key × V) => e.1 = q.1 ∧ Rp H m n (fun b => S b ∧ b ≠ a) q.2 e.2) l es) (h : (lkG l (Sum.inr k)).isSome = true) : ∃ v, valV es (Sum.inr k : Key) = some v ∧ Rp H m n (fun b => S b ∧ b ≠ a) (atG (.dic l) k) v := by
  rcases pair_lkG p (Sum.inr k) with ⟨d, v, h1, h2, h3⟩ | ⟨h1, h2⟩
  · refine ⟨v, h2, ?_⟩
    have : atG (.dic l) k = d := by unfold atG dicG; simp [h1]
    rw [this]; exact h3
  · rw [h1] at h; cases h
section
variable {P : Program} {w : World} {K : PySem.W.Frag} {mg : Str → Option Value} {base : Heap} {C_Shape C_InvalidData C_InvalidShape C_StayError : Addr}
def preHas (K : PySem.W.Frag) : List V → Hp → Bool → Prop := fun vs H b => ∃ (v : V) (m n : Nat) (S : Addr → Prop) (g : G) (a : Addr) (ns : List Str), vs = [v, .ref a] ∧ Rp H m n S g v ∧ SqL K H a (ns.map V.str) ∧ ns.length ≤ 1000 ∧ b = hasN g ns
theorem ok_has_namesG (T : Txt K mg C_Shape C_InvalidData C_InvalidShape C_StayError) (R : Prg K mg C_Shape C_InvalidData C_InvalidShape C_StayError) : ∃ f fd, Fn P w K mg base "has_names" 1 ["value", "names"] (spB (preHas K)) f fd := by
  obtain ⟨f, fd, at_, F, kp⟩ := R.has_names
  refine ⟨f, fd, F.ok sc_has_names (fun vs H Q E h => ?_) (fun cdv A outer s H vs Q E hr h => ?_), at_, kp, F.binds (fun _ _ _ _ _ _ us hl => match us, hl with | [_, _], _ => rfl)⟩
  · obtain ⟨b, ⟨v, m, n, S, g, a, ns, rfl, _⟩, _⟩ := h; rfl
  · obtain ⟨b, ⟨v, m, n, S, g, a, ns, rfl, hg, ha, hn, rfl⟩, k⟩ := h
    refine ⟨_, (pss_one (ps_ret (pe_and (pe_callB (r := rIsi K) call_isi (by rfl) T.isinstance (by decide +kernel) (pa_cons (pv 0) (pa_cons (pe_bltn (v := .ty "dict") (by rfl) T.dict boot_dict rfl) pa_nil))) (pe_and (pe_cmpR op_eq (pe_callB call_lenD (by rfl) T.len (by decide +kernel) (pa_cons (pv 0) pa_nil)) (pe_callB (r := rLenA K) call_len (by rfl) T.len (by decide +kernel) (pa_cons (pv 1) pa_nil)) (nomark _)) (pe_one (pe_callB (r := rAll K) (cr_all rfl) (by rfl) T.all (by decide +kernel) (pa_cons (pe_lc (own := [("name", 2)]) rfl sc_has_names.nd (show PI _ _ _ (iList K _) from pi_list (pv 1)) (blkOk_by (own := [("name", 2)]) (N := ["value", "names", "name"]) (sc := defScope s_has_names) (by decide +kernel)) (fun _ _ _ _ _ => (pg_name (i := 2) sc_has_names.nd rfl (Or.inl rfl))) (fun _ _ _ _ _ => pts_nil) (fun _ _ _ _ _ => (pe_cmp (pc_din (hu_of hr) (pv 2) (pv 0)) rfl))) pa_nil))))))), ?_⟩
    refine Evl.s_ret (v := .bl (hasN g ns)) ?_ fun H2 e2 => k H2 e2
    cases hd : dicG g with
    | none =>
      have : hasN g ns = false := by unfold hasN; rw [hd]; rfl
      exact Evl.ev_is (Evl.ev_andV (a := false) (b := false) (Evl.ev_is (ev_isG (Evl.ev_var rfl) hg) (by rw [isK_dic, hd]; rfl)) fun h => nomatch h) (by rw [this]; rfl)
    | some l =>
      have eg : g = .dic l := by cases g <;> simp [dicG] at hd; rw [hd]
      subst eg
      obtain ⟨n, d, es, rfl, rfl, _, hda, _, le, _, _, pr⟩ := rp_dic hg
      have e1 : hasN (.dic l) ns = (true && (decide (l.length = ns.length) && ns.all fun n => (lkG l (Sum.inr n)).isSome)) := by unfold hasN; rw [hd]; rfl
      rw [e1]
      refine Evl.ev_andV (Evl.ev_is (ev_isG (Evl.ev_var rfl) hg) (by rw [isK_dic, hd]; rfl)) fun _ => Evl.ev_andV (Evl.ev_is (Evl.ev_op (ev_lenK (Evl.ev_var rfl) hda) (ev_lenL (Evl.ev_var rfl) (.inl ha)) (Evl.rv_eq rfl)) ?_) fun _ => ev_allG (l := ns) (g := fun n => (lkG l (Sum.inr n)).isSome) (f := fun i => (ns[i]?.map fun n => (lkG l (Sum.inr n)).isSome).getD false) (by rw [List.length_map]) (el_lcA (Evl.ev_var rfl) ha (by rw [List.length_map]; omega) (fun _ => rfl) fun i x hx H2 e2 => ?_) (fun i d hd => by rw [hd]; rfl)
      · rw [List.length_map, le]
        congr 1
        congr 1
        exact propext ⟨fun h => by have := V.int.inj h; omega, fun h => by rw [h]⟩
      · obtain ⟨z, hz, rfl⟩ : ∃ z, ns[i]? = some z ∧ x = .str z := by
          rw [List.getElem?_map] at hx
          cases e : ns[i]? with
          | none => rw [e] at hx; cases hx
          | some z => rw [e] at hx; exact ⟨z, rfl, (Option.some.inj hx).symm⟩
        exact Evl.ev_is (ev_din (Evl.ev_var rfl) (Evl.ev_var rfl) (.inl (e2 _ _ hda))) (by rw [vG_some pr, hz]; rfl)
end
end Pk

namespace Pk
open PySem PySem.Spec PyProof.Rows L2 Ssb
open Evl (Ex Ev EvT EvL EvA EvU)
/-! ### what the checks say of any datum -/
theorem take_snocG {α : Type} {l : List α} {i : Nat} {x : α} (h : l[i]? = some x) : l.take (i + 1) = l.take i ++ [x] := by rw [List.take_add_one, h]; rfl
theorem Ex.both {H H' : Hp} {d : Addr} {u : HO} (e : Ex H H') : Ex (upd H d u) (upd H' d u) := fun b o hb => by
  by_cases h : b = d
  · rw [h] at hb ⊢; rw [upd_same] at hb ⊢; exact hb
  · rw [upd_ne h] at hb ⊢; exact e b o hb
section
variable {P : Program} {w : World} {K : PySem.W.Frag} {mg : Str → Option Value} {base : Heap} {C_Shape C_InvalidData C_InvalidShape C_StayError : Addr}
theorem itsG_of {g : G} {H : Hp} {K : PySem.W.Frag} {m n : Nat} {S : Addr → Prop} {v : V} {l : List G} (h : itsG g = some l) (hg : Rp H m n S g v) : ∃ k a xs, n = k + 1 ∧ v = .ref a ∧ (SqL K H a xs ∨ SqT K H a xs) ∧ l.length ≤ m ∧ Paired (fun d x => Rp H m k S d x) l xs := by
  obtain ⟨k, rfl⟩ := rp_pos hg
  cases g with
  | lst l' =>
    cases h
    obtain ⟨a, xs, e, _, ha, hl, p⟩ := hg
    exact ⟨k, a, xs, rfl, e, .inl (Evl.sq_of ha), hl, p⟩
  | tup l' =>
    cases h
    obtain ⟨a, xs, e, ha, hl, p⟩ := hg
    exact ⟨k, a, xs, rfl, e, .inr (Evl.st_of ha), hl, p⟩
  | _ => cases h
end
theorem cut_to {xs : List V} {i : Nat} : cutV xs none (some (i : Int)) = xs.take i := by
  unfold cutV
  rw [HT.sIx_none, HT.sIx_nat, List.drop_zero, Nat.sub_zero]
  exact List.take_eq_take_iff.mpr (by omega)
end Pk

namespace Pk
open PySem PySem.Spec PyProof.Rows L2 Ssb
open Evl (Ex Ev EvT EvL EvA EvU)
theorem ki_non_bool : isK .non "bool" = false := (show (kitB "NoneType" "bool").getD false = false by decide +kernel)
theorem ki_non_int : isK .non "int" = false := (show (kitB "NoneType" "int").getD false = false by decide +kernel)
theorem ki_non_str : isK .non "str" = false := (show (kitB "NoneType" "str").getD false = false by decide +kernel)
theorem ki_non_list : isK .non "list" = false := (show (kitB "NoneType" "list").getD false = false by decide +kernel)
theorem ki_non_tuple : isK .non "tuple" = false := (show (kitB "NoneType" "tuple").getD false = false by decide +kernel)
theorem ki_non_dict : isK .non "dict" = false := (show (kitB "NoneType" "dict").getD false = false by decide +kernel)
theorem ki_bl_bool {a : Bool} : isK (.bl a) "bool" = true := (show (kitB "bool" "bool").getD false = true by decide +kernel)
theorem ki_bl_int {a : Bool} : isK (.bl a) "int" = true := (show (kitB "bool" "int").getD false = true by decide +kernel)
theorem ki_bl_str {a : Bool} : isK (.bl a) "str" = false := (show (kitB "bool" "str").getD false = false by decide +kernel)
theorem ki_bl_list {a : Bool} : isK (.bl a) "list" = false := (show (kitB "bool" "list").getD false = false by decide +kernel)
theorem ki_bl_tuple {a : Bool} : isK (.bl a) "tuple" = false := (show (kitB "bool" "tuple").getD false = false by decide +kernel)
theorem ki_bl_dict {a : Bool} : isK (.bl a) "dict" = false := (show (kitB "bool" "dict").getD false = false by decide +kernel)
theorem ki_int_bool {a : Int} : isK (.int a) "bool" = false := (show (kitB "int" "bool").getD false = false by decide +kernel)
theorem ki_int_int {a : Int} : isK (.int a) "int" = true := (show (kitB "int" "int").getD false = true by decide +kernel)
theorem ki_int_str {a : Int} : isK (.int a) "str" = false := (show (kitB "int" "str").getD false = false by decide +kernel)
theorem ki_int_list {a : Int} : isK (.int a) "list" = false := (show (kitB "int" "list").getD false = false by decide +kernel)
theorem ki_int_tuple {a : Int} : isK (.int a) "tuple" = false := (show (kitB "int" "tuple").getD false = false by decide +kernel)
theorem ki_int_dict {a : Int} : isK (.int a) "dict" = false := (show (kitB "int" "dict").getD false = false by decide +kernel)
theorem ki_str_bool {a : Str} : isK (.str a) "bool" = false := (show (kitB "str" "bool").getD false = false by decide +kernel)
theorem ki_str_int {a : Str} : isK (.str a) "int" = false := (show (kitB "str" "int").getD false = false by decide +kernel)
theorem ki_str_str {a : Str} : isK (.str a) "str" = true := (show (kitB "str" "str").getD false = true by decide +kernel)
theorem ki_str_list {a : Str} : isK (.str a) "list" = false := (show (kitB "str" "list").getD false = false by decide +kernel)
theorem ki_str_tuple {a : Str} : isK (.str a) "tuple" = false := (show (kitB "str" "tuple").getD false = false by decide +kernel)
theorem ki_str_dict {a : Str} : isK (.str a) "dict" = false := (show (kitB "str" "dict").getD false = false by decide +kernel)
theorem ki_lst_bool {a : List G} : isK (.lst a) "bool" = false := (show (kitB "list" "bool").getD false = false by decide +kernel)
theorem ki_lst_int {a : List G} : isK (.lst a) "int" = false := (show (kitB "list" "int").getD false = false by decide +kernel)
theorem ki_lst_str {a : List G} : isK (.lst a) "str" = false := (show (kitB "list" "str").getD false = false by decide +kernel)
theorem ki_lst_list {a : List G} : isK (.lst a) "list" = true := (show (kitB "list" "list").getD false = true by decide +kernel)
theorem ki_lst_tuple {a : List G} : isK (.lst a) "tuple" = false := (show (kitB "list" "tuple").getD false = false by decide +kernel)
theorem ki_lst_dict {a : List G} : isK (.lst a) "dict" = false := (show (kitB "list" "dict").getD false = false by decide +kernel)
theorem ki_tup_bool {a : List G} : isK (.tup a) "bool" = false := (show (kitB "tuple" "bool").getD false = false by decide +kernel)
theorem ki_tup_int {a : List G} : isK (.tup a) "int" = false := (show (kitB "tuple" "int").getD false = false by decide +kernel)
theorem ki_tup_str {a : List G} : isK (.tup a) "str" = false := (show (kitB "tuple" "str").getD false = false by decide +kernel)
theorem ki_tup_list {a : List G} : isK (.tup a) "list" = false := (show (kitB "tuple" "list").getD false = false by decide +kernel)
theorem ki_tup_tuple {a : List G} : isK (.tup a) "tuple" = true := (show (kitB "tuple" "tuple").getD false = true by decide +kernel)
theorem ki_tup_dict {a : List G} : isK (.tup a) "dict" = false := (show (kitB "tuple" "dict").getD false = false by decide +kernel)
theorem ki_dic_bool {a : List KG} : isK (.dic a) "bool" = false := (show (kitB "dict" "bool").getD false = false by decide +kernel)
theorem ki_dic_int {a : List KG} : isK (.dic a) "int" = false := (show (kitB "dict" "int").getD false = false by decide +kernel)
theorem ki_dic_str {a : List KG} : isK (.dic a) "str" = false := (show (kitB "dict" "str").getD false = false by decide +kernel)
theorem ki_dic_list {a : List KG} : isK (.dic a) "list" = false := (show (kitB "dict" "list").getD false = false by decide +kernel)
theorem ki_dic_tuple {a : List KG} : isK (.dic a) "tuple" = false := (show (kitB "dict" "tuple").getD false = false by decide +kernel)
theorem ki_dic_dict {a : List KG} : isK (.dic a) "dict" = true := (show (kitB "dict" "dict").getD false = true by decide +kernel)
theorem ev_isC {K : PySem.W.Frag} {σ : L2.St} {H : Hp} {te : TE} {m n : Nat} {S : Addr → Prop} {d : G} {v : V} {T : String} {b : Bool} (h : Ev te σ H v) (hr : Rp H m n S d v) (hb : isK d T = b) (hT : T ∈ ["bool", "int", "str", "list", "tuple", "dict"] := by decide) : Ev (tCB (rIsi K) (tCons te (tCons (tC (.ty T)) tNil))) σ H (.bl b) :=
  Evl.ev_is (ev_isG h hr hT) (by rw [hb])
theorem rv_ixQ {K : PySem.W.Frag} {H : Hp} {p : Addr} {xs : List V} {i : Int} {v : V} (h : SqL K H p xs ∨ SqT K H p xs) (ha : atI xs i = some v) : Evl.RV (rIx K) (.ref p) (.int i) H v := fun H1 e Q q =>
  h.elim (fun z => .inl ⟨p, xs, i, v, rfl, rfl, Evl.ex_l e z, ha, q H1 (Ex.refl H1)⟩) fun z => .inr (.inl ⟨p, xs, i, v, rfl, rfl, Evl.ex_t e z, ha, q H1 (Ex.refl H1)⟩)
theorem ex_q {K : PySem.W.Frag} {H H' : Hp} {a : Addr} {xs : List V} (e : Ex H H') (h : SqL K H a xs ∨ SqT K H a xs) : SqL K H' a xs ∨ SqT K H' a xs := h.imp (Evl.ex_l e) (Evl.ex_t e)
theorem rv_isN {x : V} : Evl.RV (fun x y H Q => y = .non ∧ Q (.bl (decide (x = .non))) H) x .non H (.bl (decide (x = .non))) := fun H1 _ _ q => ⟨rfl, q H1 (Ex.refl _)⟩
section
variable {P : Program} {w : World} {K : PySem.W.Frag} {mg : Str → Option Value} {base : Heap} {C_Shape C_InvalidData C_InvalidShape C_StayError : Addr}
def spCopy (n : Nat) : Sp := fun vs H Q _ => ∃ (v : V) (m : Nat) (P : Addr → Prop) (d : G), vs = [v] ∧ Rp H m n P d v ∧ m ≤ 90000 ∧ ∀ H' v', Ex H H' → Rp H' m n (fun b => H b = none) d v' → Q v' H'
theorem ok__law_copy (T : Txt K mg C_Shape C_InvalidData C_InvalidShape C_StayError) (R : Prg K mg C_Shape C_InvalidData C_InvalidShape C_StayError) : ∀ n, ∃ f fd, Fn P w K mg base "_law_copy" (n + 1) ["_law_value"] (spCopy n) f fd
  | 0 => by
    obtain ⟨f, fd, at_, F, kp⟩ := R._law_copy
    refine ⟨f, fd, F.ok sc__law_copy (fun vs H Q E h => ?_) (fun cdv A outer s H vs Q E hr h => ?_), at_, kp, F.binds (fun _ _ _ _ _ _ us hl => match us, hl with | [_], _ => rfl)⟩
    · obtain ⟨v, m, P, d, rfl, _⟩ := h; rfl
    · obtain ⟨v, m, P, d, rfl, h, _⟩ := h; exact h.elim
  | n + 1 => by
    obtain ⟨_, _, G__law_copy⟩ := ok__law_copy T R n
    obtain ⟨f, fd, at_, F, kp⟩ := R._law_copy
    refine ⟨f, fd, F.ok sc__law_copy (fun vs H Q E h => ?_) (fun cdv A outer s H vs Q E hr h => ?_), at_, kp, F.binds (fun _ _ _ _ _ _ us hl => match us, hl with | [_], _ => rfl)⟩
    · obtain ⟨v, m, P, d, rfl, _⟩ := h; rfl
    · obtain ⟨v, m, PP, d, rfl, hv, hm, k⟩ := h
      refine ⟨_, (pss_cons (ps_if (pt_val (pe_callB (r := rIsi K) call_isi (by rfl) T.isinstance (by decide +kernel) (pa_cons (pv 0) (pa_cons (pe_bltn (v := .ty "list") (by rfl) T.list boot_list rfl) pa_nil)))) (pss_one (ps_ret (pe_lc (own := [("_law_part", 3)]) rfl sc__law_copy.nd (show PI _ _ _ (iList K _) from pi_list (pv 0)) (blkOk_by (own := [("_law_part", 3)]) (N := ["_law_value", "_law_result", "_law_key", "_law_part"]) (sc := defScope s__law_copy) (by decide +kernel)) (fun _ _ _ _ _ => (pg_name (i := 3) sc__law_copy.nd rfl (Or.inl rfl))) (fun _ _ _ _ _ => pts_nil) (fun _ _ _ _ _ => (pcl G__law_copy hr (pa_cons (pv 3) pa_nil)))))) pss_nil)
  (pss_cons (ps_if (pt_val (pe_callB (r := rIsi K) call_isi (by rfl) T.isinstance (by decide +kernel) (pa_cons (pv 0) (pa_cons (pe_bltn (v := .ty "tuple") (by rfl) T.tuple boot_tuple rfl) pa_nil)))) (pss_one (ps_ret (pe_callTy (r := rTupA K) call_tuple_of (by rfl) T.tuple (by decide +kernel) (pa_cons (pe_lc (own := [("_law_part", 3)]) rfl sc__law_copy.nd (show PI _ _ _ (iTup K _) from pi_tup (pv 0)) (blkOk_by (own := [("_law_part", 3)]) (N := ["_law_value", "_law_result", "_law_key", "_law_part"]) (sc := defScope s__law_copy) (by decide +kernel)) (fun _ _ _ _ _ => (pg_name (i := 3) sc__law_copy.nd rfl (Or.inl rfl))) (fun _ _ _ _ _ => pts_nil) (fun _ _ _ _ _ => (pcl G__law_copy hr (pa_cons (pv 3) pa_nil)))) pa_nil)))) pss_nil)
  (pss_cons (ps_if (pt_val (pe_callB (r := rIsi K) call_isi (by rfl) T.isinstance (by decide +kernel) (pa_cons (pv 0) (pa_cons (pe_bltn (v := .ty "dict") (by rfl) T.dict boot_dict rfl) pa_nil)))) (pss_cons (ps_set (i := 1) sc__law_copy.nd rfl (Or.inl rfl) pe_dnewK)
  (pss_cons (ps_lock (ps_for PassesOwn.never rfl (pi_keys (pv 0)) (pg_name (i := 2) sc__law_copy.nd rfl (Or.inl rfl))
    (pss_one (ps_dput (hu_of hr) (pv 1) (pv 2) (pcl G__law_copy hr (pa_cons (pe_dget (hu_of hr) (pv 0) (pv 2) (fun _ _ => rfl)) pa_nil)) rfl))))
  (pss_one (ps_ret (pv 1))))) pss_nil)
  (pss_one (ps_ret (pv 0)))))), ?_⟩
      have kidL : ∀ {l : List G} {xs : List V} {H1 : Hp} {Q2 : VK} {J : It}, Walk J xs.length (fun H' => Ex H1 H') (YAt xs) → xs.length ≤ 90000 → Paired (fun d x => Rp H1 m n PP d x) l xs → (∀ H' Dl ys, H1 Dl = none → Ex H1 H' → H' Dl = some (.lst ys) → Paired (fun d x => Rp H' m n (fun b => H1 b = none ∧ b ≠ Dl) d x) l ys → Q2 (.ref Dl) H') →
          ∀ Dl, H1 Dl = none → ∃ W : Nat → Nat → Hp → Prop, (∃ m, W 0 m (upd H1 Dl (.lst []))) ∧ ∀ i m H, W i m H → (J.stop i H ∧ Q2 (.ref Dl) H) ∨ (J.go i H ∧ ∃ Nx : Hp → Prop, (∀ H', Nx H' → ∃ m', m' < m ∧ W (i + 1) m' H') ∧ ∀ x H', J.yld i H x H' → gName 3 x (wipe [some v, none, none, none] [3]) H' fun σ2 H2 => wipe σ2 [3] = wipe [some v, none, none, none] [3] ∧ tYes σ2 H2 fun b H3 =>
            if b = true then tCall (spCopy n) [] E0 (tCons (tVar 3) tNil) σ2 H3 fun y H4 => ∃ acc, H4 Dl = some (.lst acc) ∧ acc.length < sizeLine ∧ Nx (upd H4 Dl (.lst (acc ++ [y]))) else Nx H3) := by
        intro l xs H1 Q2 J wk l5 pr q Dl hD
        refine lc_it wk (fun i H' => Ex H1 H' ∧ ∃ ys, H' Dl = some (.lst ys) ∧ Paired (fun d x => Rp H' m n (fun b => H1 b = none ∧ b ≠ Dl) d x) (l.take i) ys) ⟨Ex.new hD, [], upd_same, .nil⟩ (fun i H' _ p => p.1) (fun i x H0 H' hi pv y => ?_) fun H' pv => ?_
        · obtain ⟨e, ys, hys, pys⟩ := pv
          obtain ⟨rfl, hx⟩ := y
          obtain ⟨dx, hdx, hrx⟩ := pair_back pr hx
          refine ⟨rfl, ?_⟩
          refine yes_go ?_
          refine ⟨_, rfl, x, m, PP, dx, rfl, rp_ex e hrx, hm, fun H3 v3 e3 hr3 => ⟨ys, e3 _ _ hys, ?_, Ex.mut (e.trans e3) hD, ys ++ [v3], upd_same, ?_⟩⟩
          · rw [← pair_len pys, List.length_take]; exact Evl.sz_lt (by omega)
          · rw [take_snocG hdx]
            refine pair_snoc (pair_imp pys fun a b h => rp_upd (e3 _ _ hys) (fun _ z => nomatch z) (fun b z => z.2) (rp_ex e3 h)) (rp_upd (e3 _ _ hys) (fun _ z => nomatch z) (fun b z => z.2) (rp_S (fun b hb => ⟨Evl.fresh_back e hb, fun z => by rw [z, hys] at hb; cases hb⟩) hr3))
        · obtain ⟨e, ys, hys, pys⟩ := pv
          rw [← pair_len pr, List.take_of_length_le (Nat.le_refl _)] at pys
          exact q H' Dl ys hD e hys pys
      have leaf : ∀ {H1 : Hp}, Ex H H1 → isLstG d = false → isTupG d = false → (dicG d).isSome = false → Q v H1 := fun {H1} e1 a b c => by
        refine k H1 v e1 ?_
        cases d with
        | lst l => cases a
        | tup l => cases b
        | dic l => cases c
        | non => exact hv
        | bl b => exact hv
        | int i => exact hv
        | str s => exact hv
      refine Evl.q_when (b := isLstG d) (Evl.et_B (Evl.ev_is (ev_isG (Evl.ev_var rfl) hv) (by rw [isK_lst]))) (fun hb H1 e1 => ?_) fun hb1 H1 e1 => ?_
      · cases d with
        | lst l =>
          obtain ⟨a, xs, rfl, _, ha, l5, pr⟩ := id hv
          have hv1 := pair_imp pr fun a b h => rp_ex e1 h
          refine ⟨_, rfl, a, rfl, ⟨_, Evl.sq_of (e1 _ _ ha)⟩, kidL (walk_list.mono (fun H' e => Evl.sq_of (e _ _ (e1 _ _ ha))) fun i H v H' _ _ y => y) (by rw [← pair_len pr]; omega) hv1 fun H' Dl ys hD e hys pys => ?_⟩
          exact k H' _ (e1.trans e) ⟨Dl, ys, rfl, Evl.fresh_back e1 hD, hys, l5, pair_imp pys fun a b h => rp_S (fun b hb => Evl.fresh_back e1 hb.1) h⟩
        | _ => cases hb
      refine Evl.q_when (b := isTupG d) (Evl.et_B (Evl.ev_is (ev_isG (Evl.ev_var rfl) (rp_ex e1 hv)) (by rw [isK_tup]))) (fun hb H2 e2 => ?_) fun hb2 H2 e2 => ?_
      · cases d with
        | tup l =>
          obtain ⟨a, xs, rfl, ha, l5, pr⟩ := id hv
          have e12 := e1.trans e2
          have hv2 := pair_imp pr fun a b h => rp_ex e12 h
          refine ⟨_, rfl, a, rfl, ⟨_, Evl.st_of (e12 _ _ ha)⟩, kidL (Q2 := fun x H' => rTupA K [x] H' Q) (walk_tup.mono (fun H' e => Evl.st_of (e _ _ (e12 _ _ ha))) fun i H v H' _ _ y => y) (by rw [← pair_len pr]; omega) hv2 fun H' Dl ys hD e hys pys => ?_⟩
          refine ⟨Dl, ys, rfl, .inl ⟨Evl.sq_of hys, fun t ht => ?_⟩⟩
          exact k _ _ (e12.trans (e.trans (Ex.new ht))) ⟨t, ys, rfl, upd_same, l5, pair_imp pys fun a b h => rp_ex (Ex.new ht) (rp_S (fun b hb => Evl.fresh_back e12 hb.1) h)⟩
        | _ => cases hb
      have e12 := e1.trans e2
      refine Evl.q_when (b := (dicG d).isSome) (Evl.et_B (Evl.ev_is (ev_isG (Evl.ev_var rfl) (rp_ex e12 hv)) (by rw [isK_dic]))) (fun hb H3 e3 => ?_) fun hb3 H3 e3 => Evl.s_ret (Evl.ev_var rfl) fun H4 e4 => leaf (e12.trans (e3.trans e4)) hb1 hb2 hb3
      cases d with
      | dic l =>
        have e13 := e12.trans e3
        obtain ⟨n', a, es, en, rfl, _, ha, l5, le, okk, ekeys, pr⟩ := rp_dic (rp_ex e13 hv)
        have en : n = n' := by omega
        subst en
        have ha3 := ha
        intro a1 h1
        have n1a : a1 ≠ a := fun e => by rw [e, ha3] at h1; cases h1
        refine for_lock (J := fun od => Itk a od es) (xs := fun _ => none) (d := a) (es := es) (by rw [upd_ne n1a.symm]; exact ha3) (fun od R r => ⟨_, rfl, a, od, rfl, .inl ⟨es, upd_same, r⟩⟩) (fun od => walk_keys) (fun od j σ' H' => ∃ (es' : List (Key × V)) (o2 : Option V), σ' = [some (.ref a), some (.ref a1), o2, none] ∧ Ex (upd H3 a (.frz od (.dK es))) H' ∧ H' a1 = some (.dK es') ∧ Paired (fun (x : KG) (e : Key × V) => e.1 = x.1 ∧ Rp H' m n (fun b => H3 b = none ∧ b ≠ a1) x.2 e.2) (l.take j) es')
          (fun od => ⟨[], _, rfl, Ex.both (Ex.new h1), by rw [upd_ne n1a]; exact upd_same, .nil⟩) (fun od j σ' H' _ ⟨_, _, _, e, _⟩ => e _ _ upd_same) (fun od j x σ' H0 H' hlt pv y => ?_) fun od σ' H' pv => ?_
        · obtain ⟨es', o2, rfl, e, h1', pes⟩ := pv
          obtain ⟨rfl, kk, vj, hkv, rfl⟩ := y
          obtain ⟨⟨nm, dj⟩, hdj, hk, hrj⟩ := pair_back pr hkv
          have hk : kk = nm := hk
          subst hk
          have hvj : valV es kk = some vj := valV_atK (by rw [ekeys]; exact okk.1) hkv
          have hrj' := rp_in ha3 e hrj
          refine ⟨_, rfl, _, rfl, a, vj, rfl, .inl ⟨es, kk, .inr ⟨od, e _ _ upd_same⟩, rfl, hvj.symm⟩, vj, m, _, dj, rfl, hrj', hm, fun H4 v4 e4 hr4 => ?_⟩
          have nv : valV es' kk = none := vK_no (by
            rw [pair_keysG pes, List.map_take]
            exact not_take okk.1 (by rw [List.getElem?_map, hdj]; rfl))
          refine ⟨_, rfl, _, rfl, a1, _, rfl, .inl ⟨es', kk, e4 _ _ h1', rfl, ?_, rfl⟩, es' ++ [(kk, v4)], _, rfl, Ex.mut (e.trans e4) (by rw [upd_ne n1a]; exact h1), by rw [upd_same, putK_new _ nv], ?_⟩
          · rw [← pair_len pes, List.length_take]; exact Evl.sz_lt (by omega)
          · rw [take_snocG hdj]
            have back : ∀ b, H' b = none → H3 b = none := fun b hb => by
              have := Evl.fresh_back e hb
              by_cases z : b = a
              · rw [z, upd_same] at this; cases this
              · rw [upd_ne z] at this; exact this
            exact pair_snoc (pair_imp pes fun a b h => ⟨h.1, rp_upd (e4 _ _ h1') (fun _ z => nomatch z) (fun b z => z.2) (rp_ex e4 h.2)⟩) ⟨rfl, rp_upd (e4 _ _ h1') (fun _ z => nomatch z) (fun b z => z.2) (rp_S (fun b hb => ⟨back b hb, fun z => by rw [z, h1'] at hb; cases hb⟩) hr4)⟩
        · obtain ⟨es', o2, rfl, e, h1', pes⟩ := pv
          rw [le, List.take_of_length_le (Nat.le_refl _)] at pes
          have eu : Ex H3 (upd H' a (.dK es)) := unlock ha3 e
          refine Evl.s_ret (Evl.ev_var rfl) fun H7 e7 => k H7 _ (e13.trans (eu.trans e7)) (rp_ex e7 ⟨a1, es', rfl, Evl.fresh_back e13 h1, by rw [upd_ne n1a]; exact h1', l5, okk, pair_imp pes fun x en h => ⟨h.1, ?_⟩⟩)
          refine rp_S (fun b hb => ⟨Evl.fresh_back e13 hb.1, hb.2⟩) (rp_upd (e _ _ upd_same) (fun _ z => nomatch z) (fun b z ez => ?_) h.2)
          rw [ez] at z
          rw [ha3] at z
          exact nomatch z.1
      | _ => cases hb
end
end Pk

namespace Pk
open PySem PySem.Spec PyProof.Rows L2 Ssb
open Evl (Ex Ev EvT EvL EvA EvU)
section
variable {P : Program} {w : World} {K : PySem.W.Frag} {mg : Str → Option Value} {base : Heap} {C_Shape C_InvalidData C_InvalidShape C_StayError : Addr}
def spSame (n : Nat) : Sp := fun vs H Q _ => ∃ (v1 v2 : V) (m : Nat) (P1 P2 : Addr → Prop) (d : G), vs = [v1, v2] ∧ Rp H m n P1 d v1 ∧ Rp H m n P2 d v2 ∧ m ≤ 90000 ∧ (∀ b, P1 b → ¬ P2 b) ∧ ∀ H', Ex H H' → Q (.bl true) H'
theorem ok__law_same (T : Txt K mg C_Shape C_InvalidData C_InvalidShape C_StayError) (R : Prg K mg C_Shape C_InvalidData C_InvalidShape C_StayError) : ∀ n, ∃ f fd, Fn P w K mg base "_law_same" (n + 1) ["_law_actual", "_law_expected"] (spSame n) f fd
  | 0 => by
    obtain ⟨f, fd, at_, F, kp⟩ := R._law_same
    refine ⟨f, fd, F.ok sc__law_same (fun vs H Q E h => ?_) (fun cdv A outer s H vs Q E hr h => ?_), at_, kp, F.binds (fun _ _ _ _ _ _ us hl => match us, hl with | [_, _], _ => rfl)⟩
    · obtain ⟨v, v2, m, P, P2, d, rfl, _⟩ := h; rfl
    · obtain ⟨v, v2, m, P, P2, d, rfl, h, _⟩ := h; exact h.elim
  | n + 1 => by
    obtain ⟨_, _, G__law_same⟩ := ok__law_same T R n
    obtain ⟨f, fd, at_, F, kp⟩ := R._law_same
    refine ⟨f, fd, F.ok sc__law_same (fun vs H Q E h => ?_) (fun cdv A outer s H vs Q E hr h => ?_), at_, kp, F.binds (fun _ _ _ _ _ _ us hl => match us, hl with | [_, _], _ => rfl)⟩
    · obtain ⟨v, v2, m, P, P2, d, rfl, _⟩ := h; rfl
    · obtain ⟨v, v2, m, PP, P2, d, rfl, hv, hv2, hm, dis, k⟩ := h
      refine ⟨_, (pss_cons (ps_if (pt_cmpR op_isN (pv 1) pe_non (nomark _)) (pss_one (ps_ret (pe_cmpR op_isN (pv 0) pe_non (nomark _)))) pss_nil)
  (pss_cons (ps_if (pt_val (pe_callB (r := rIsi K) call_isi (by rfl) T.isinstance (by decide +kernel) (pa_cons (pv 1) (pa_cons (pe_bltn (v := .ty "bool") (by rfl) T.bool boot_bool rfl) pa_nil)))) (pss_one (ps_ret (pe_and (pe_callB (r := rIsi K) call_isi (by rfl) T.isinstance (by decide +kernel) (pa_cons (pv 0) (pa_cons (pe_bltn (v := .ty "bool") (by rfl) T.bool boot_bool rfl) pa_nil))) (pe_one (pe_cmpR op_eq (pv 0) (pv 1) (nomark _)))))) pss_nil)
  (pss_cons (ps_if (pt_val (pe_callB (r := rIsi K) call_isi (by rfl) T.isinstance (by decide +kernel) (pa_cons (pv 1) (pa_cons (pe_bltn (v := .ty "int") (by rfl) T.int boot_int rfl) pa_nil)))) (pss_one (ps_ret (pe_and (pe_callB (r := rIsi K) call_isi (by rfl) T.isinstance (by decide +kernel) (pa_cons (pv 0) (pa_cons (pe_bltn (v := .ty "int") (by rfl) T.int boot_int rfl) pa_nil))) (pe_and (pe_not (pe_callB (r := rIsi K) call_isi (by rfl) T.isinstance (by decide +kernel) (pa_cons (pv 0) (pa_cons (pe_bltn (v := .ty "bool") (by rfl) T.bool boot_bool rfl) pa_nil)))) (pe_one (pe_cmpR op_eq (pv 0) (pv 1) (nomark _))))))) pss_nil)
  (pss_cons (ps_if (pt_val (pe_callB (r := rIsi K) call_isi (by rfl) T.isinstance (by decide +kernel) (pa_cons (pv 1) (pa_cons (pe_bltn (v := .ty "str") (by rfl) T.str boot_str rfl) pa_nil)))) (pss_one (ps_ret (pe_and (pe_callB (r := rIsi K) call_isi (by rfl) T.isinstance (by decide +kernel) (pa_cons (pv 0) (pa_cons (pe_bltn (v := .ty "str") (by rfl) T.str boot_str rfl) pa_nil))) (pe_one (pe_cmpR op_eq (pv 0) (pv 1) (nomark _)))))) pss_nil)
  (pss_cons (ps_if (pt_val (pe_callB (r := rIsi K) call_isi (by rfl) T.isinstance (by decide +kernel) (pa_cons (pv 1) (pa_cons (pe_bltn (v := .ty "dict") (by rfl) T.dict boot_dict rfl) pa_nil)))) (pss_cons (ps_if (PW.pt (pw_or (pt_not (pt_val (pe_callB (r := rIsi K) call_isi (by rfl) T.isinstance (by decide +kernel) (pa_cons (pv 0) (pa_cons (pe_bltn (v := .ty "dict") (by rfl) T.dict boot_dict rfl) pa_nil))))) (pw_or1 (pt_cmpR op_ne (pe_callB call_lenD (by rfl) T.len (by decide +kernel) (pa_cons (pv 0) pa_nil)) (pe_callB call_lenD (by rfl) T.len (by decide +kernel) (pa_cons (pv 1) pa_nil)) (nomark _))))) pss_never pss_nil)
  (pss_cons (ps_lock (ps_for PassesOwn.never rfl (pi_keys (pv 1)) (pg_name (i := 2) sc__law_same.nd rfl (Or.inl rfl))
    (pss_one (ps_if (PW.pt (pw_or (pt_cmp (pc_dnotin (hu_of hr) (pv 2) (pv 0))) (pw_or1 (pt_not (pt_val (pcl G__law_same hr (pa_cons (pe_dget (hu_of hr) (pv 0) (pv 2) (fun _ _ => rfl)) (pa_cons (pe_dget (hu_of hr) (pv 1) (pv 2) (fun _ _ => rfl)) pa_nil)))))))) pss_never pss_nil))))
  (pss_one (ps_ret pe_bl)))) pss_nil)
  (pss_cons (ps_if (PW.pt (pw_and (pt_val (pe_callB (r := rIsi K) call_isi (by rfl) T.isinstance (by decide +kernel) (pa_cons (pv 1) (pa_cons (pe_bltn (v := .ty "tuple") (by rfl) T.tuple boot_tuple rfl) pa_nil)))) (pw_and1 (pt_not (pt_val (pe_callB (r := rIsi K) call_isi (by rfl) T.isinstance (by decide +kernel) (pa_cons (pv 0) (pa_cons (pe_bltn (v := .ty "tuple") (by rfl) T.tuple boot_tuple rfl) pa_nil)))))))) pss_never pss_nil)
  (pss_cons (ps_if (PW.pt (pw_and (pt_val (pe_callB (r := rIsi K) call_isi (by rfl) T.isinstance (by decide +kernel) (pa_cons (pv 1) (pa_cons (pe_bltn (v := .ty "list") (by rfl) T.list boot_list rfl) pa_nil)))) (pw_and1 (pt_not (pt_val (pe_callB (r := rIsi K) call_isi (by rfl) T.isinstance (by decide +kernel) (pa_cons (pv 0) (pa_cons (pe_bltn (v := .ty "list") (by rfl) T.list boot_list rfl) pa_nil)))))))) pss_never pss_nil)
  (pss_cons (ps_if (pt_cmpR op_ne (pe_callB (r := rLenA K) call_len (by rfl) T.len (by decide +kernel) (pa_cons (pv 0) pa_nil)) (pe_callB (r := rLenA K) call_len (by rfl) T.len (by decide +kernel) (pa_cons (pv 1) pa_nil)) (nomark _)) pss_never pss_nil)
  (pss_cons (ps_for PassesOwn.never rfl (pi_range1 (by rfl) T.range (pa_cons (pe_callB (r := rLenA K) call_len (by rfl) T.len (by decide +kernel) (pa_cons (pv 1) pa_nil)) pa_nil)) (pg_name (i := 3) sc__law_same.nd rfl (Or.inl rfl))
    (pss_one (ps_if (pt_not (pt_val (pcl G__law_same hr (pa_cons (pe_ix (r := rIx K) ix_seq (pv 0) (pv 3) (fun _ _ => rfl)) (pa_cons (pe_ix (r := rIx K) ix_seq (pv 1) (pv 3) (fun _ _ => rfl)) pa_nil))))) pss_never pss_nil)))
  (pss_one (ps_ret pe_bl))))))))))), ?_⟩
      by_cases cn : d = .non
      · subst cn
        have e : v = .non := hv
        subst e
        have e : v2 = .non := hv2
        subst e
        exact Evl.q_when (b := true) (Evl.et_is (Evl.et_test (Evl.ev_op (x := V.non) (Evl.ev_var rfl) Evl.ev_c rv_isN)) (by decide)) (fun _ H1 e1 => Evl.s_ret (Evl.ev_is (Evl.ev_op (x := V.non) (Evl.ev_var rfl) Evl.ev_c rv_isN) (by decide)) fun H2 e2 => k H2 (e1.trans e2)) fun h => nomatch h
      have no : v2 ≠ .non := fun e => by
        subst e
        cases d with
        | non => exact cn rfl
        | bl b => cases (show V.non = .bl b from hv2)
        | int b => cases (show V.non = .int b from hv2)
        | str b => cases (show V.non = .str b from hv2.1)
        | lst l => obtain ⟨a, xs, e, _⟩ := hv2; cases e
        | tup l => obtain ⟨a, xs, e, _⟩ := hv2; cases e
        | dic l => obtain ⟨a, xs, e, _⟩ := hv2; cases e
      refine Evl.q_when (b := false) (Evl.et_is (Evl.et_test (Evl.ev_op (Evl.ev_var rfl) Evl.ev_c rv_isN)) (decide_eq_false no)) (fun h => nomatch h) fun _ H1 e1 => ?_
      have hw1 := rp_ex e1 hv
      have hw2 := rp_ex e1 hv2
      have seq : ∀ {Hx : Hp} {g : G}, g = d → (∃ l, itsG g = some l) → True := fun _ _ => trivial
      cases d with
      | non => exact absurd rfl cn
      | bl b =>
        have e : v = .bl b := hv
        subst e
        have e : v2 = .bl b := hv2
        subst e
        refine Evl.q_when (b := true) (Evl.et_B (ev_isC (Evl.ev_var rfl) hw2 ki_bl_bool)) (fun _ H2 e2 => ?_) (fun h => nomatch h)
        exact Evl.s_ret (Evl.ev_is (Evl.ev_andV (a := true) (b := true) (ev_isC (Evl.ev_var rfl) (rp_ex e2 hw1) ki_bl_bool) fun _ => Evl.ev_is (Evl.ev_op (Evl.ev_var rfl) (Evl.ev_var rfl) (Evl.rv_eq rfl)) (by simp)) rfl) fun H3 e3 => k H3 (e1.trans (e2.trans e3))
      | int i =>
        have e : v = .int i := hv
        subst e
        have e : v2 = .int i := hv2
        subst e
        refine Evl.q_when (b := false) (Evl.et_B (ev_isC (Evl.ev_var rfl) hw2 ki_int_bool)) (fun h => nomatch h) fun _ H2 e2 => ?_
        refine Evl.q_when (b := true) (Evl.et_B (ev_isC (Evl.ev_var rfl) (rp_ex e2 hw2) ki_int_int)) (fun _ H3 e3 => ?_) (fun h => nomatch h)
        have hx := rp_ex (e2.trans e3) hw1
        exact Evl.s_ret (Evl.ev_is (Evl.ev_andV (a := true) (b := true) (ev_isC (Evl.ev_var rfl) hx ki_int_int) fun _ => Evl.ev_is (Evl.ev_andV (a := true) (b := true) (Evl.ev_notV (a := false) (ev_isC (Evl.ev_var rfl) hx ki_int_bool)) fun _ => Evl.ev_is (Evl.ev_op (Evl.ev_var rfl) (Evl.ev_var rfl) (Evl.rv_eq rfl)) (by simp)) rfl) rfl) fun H4 e4 => k H4 (e1.trans ((e2.trans e3).trans e4))
      | str i =>
        have e : v = .str i := hv.1
        subst e
        have e : v2 = .str i := hv2.1
        subst e
        refine Evl.q_when (b := false) (Evl.et_B (ev_isC (Evl.ev_var rfl) hw2 ki_str_bool)) (fun h => nomatch h) fun _ H2 e2 => ?_
        refine Evl.q_when (b := false) (Evl.et_B (ev_isC (Evl.ev_var rfl) (rp_ex e2 hw2) ki_str_int)) (fun h => nomatch h) fun _ H3 e3 => ?_
        have e23 := e2.trans e3
        refine Evl.q_when (b := true) (Evl.et_B (ev_isC (Evl.ev_var rfl) (rp_ex e23 hw2) ki_str_str)) (fun _ H4 e4 => ?_) (fun h => nomatch h)
        exact Evl.s_ret (Evl.ev_is (Evl.ev_andV (a := true) (b := true) (ev_isC (Evl.ev_var rfl) (rp_ex (e23.trans e4) hw1) ki_str_str) fun _ => Evl.ev_is (Evl.ev_op (Evl.ev_var rfl) (Evl.ev_var rfl) (Evl.rv_eq rfl)) (by simp)) rfl) fun H5 e5 => k H5 (e1.trans ((e23.trans e4).trans e5))
      | lst l =>
        refine Evl.q_when (b := false) (Evl.et_B (ev_isC (Evl.ev_var rfl) hw2 ki_lst_bool)) (fun h => nomatch h) fun _ H2 e2 => ?_
        refine Evl.q_when (b := false) (Evl.et_B (ev_isC (Evl.ev_var rfl) (rp_ex e2 hw2) ki_lst_int)) (fun h => nomatch h) fun _ H3 e3 => ?_
        have e23 := e2.trans e3
        refine Evl.q_when (b := false) (Evl.et_B (ev_isC (Evl.ev_var rfl) (rp_ex e23 hw2) ki_lst_str)) (fun h => nomatch h) fun _ H4 e4 => ?_
        have e24 := e23.trans e4
        refine Evl.q_when (b := false) (Evl.et_B (ev_isC (Evl.ev_var rfl) (rp_ex e24 hw2) ki_lst_dict)) (fun h => nomatch h) fun _ H5 e5 => ?_
        have e25 := e24.trans e5
        refine Evl.q_when (b := false) (Evl.et_and (a := false) (b := false) (Evl.et_B (ev_isC (Evl.ev_var rfl) (rp_ex e25 hw2) ki_lst_tuple)) (fun h => nomatch h)) (fun h => nomatch h) fun _ H6 e6 => ?_
        have e26 := e25.trans e6
        refine Evl.q_when (b := false) (Evl.et_and (a := true) (b := false) (Evl.et_B (ev_isC (Evl.ev_var rfl) (rp_ex e26 hw2) ki_lst_list)) (fun _ => Evl.et_not (a := true) (Evl.et_B (ev_isC (Evl.ev_var rfl) (rp_ex e26 hw1) ki_lst_list)))) (fun h => nomatch h) fun _ H7 e7 => ?_
        have e17 := e1.trans (e26.trans e7)
        obtain ⟨k1, a, xs, ek, rfl, ha, l5, pr1⟩ := itsG_of (K := K) (g := .lst l) rfl (rp_ex e17 hv)
        have ek : n = k1 := by omega
        subst ek
        obtain ⟨k1, b, ys, ek, rfl, hb, l6, pr2⟩ := itsG_of (K := K) (g := .lst l) rfl (rp_ex e17 hv2)
        have ek : n = k1 := by omega
        subst ek
        have lx := pair_len pr1
        have ly := pair_len pr2
        refine Evl.q_when (b := false) (Evl.et_is (Evl.et_test (Evl.ev_op (ev_lenL (Evl.ev_var rfl) ha) (ev_lenL (Evl.ev_var rfl) hb) (Evl.rv_ne rfl))) (by rw [show xs.length = ys.length by omega]; simp)) (fun h => nomatch h) fun _ H8 e8 => ?_
        refine Evl.q_forR1 (n := (ys.length : Int)) (Evl.ea_cons (ev_lenL (Evl.ev_var rfl) (ex_q e8 hb)) Evl.ea_nil) ⟨by omega, by omega⟩ (fun i σ' H' => ∃ o3, σ' = [some (.ref a), some (.ref b), none, o3] ∧ Ex H7 H') (fun H9 e9 => ⟨_, rfl, e8.trans e9⟩) (fun i σ' H' hi pv => ?_) fun σ' H' pv => ?_
        · obtain ⟨o3, rfl, e⟩ := pv
          have hi : i < ys.length := by omega
          obtain ⟨x2, hx2⟩ : ∃ x, ys[i]? = some x := ⟨_, List.getElem?_eq_getElem hi⟩
          obtain ⟨x1, hx1⟩ : ∃ x, xs[i]? = some x := ⟨_, List.getElem?_eq_getElem (by omega)⟩
          obtain ⟨y1, hy1, hr1⟩ := pair_back pr1 hx1
          obtain ⟨y2, hy2, hr2⟩ := pair_back pr2 hx2
          rw [hy1] at hy2
          cases hy2
          exact Evl.s_when (b := false) (Evl.et_not (a := true) (Evl.et_B (ev_fn (Evl.ea_cons (Evl.ev_op (Evl.ev_var rfl) (Evl.ev_var rfl) (rv_ixQ (ex_q e ha) (atI_nat hx1))) (Evl.ea_cons (Evl.ev_op (Evl.ev_var rfl) (Evl.ev_var rfl) (rv_ixQ (ex_q e hb) (atI_nat hx2))) Evl.ea_nil)) fun H9 e9 Q' q' => ⟨x1, x2, m, PP, P2, y1, rfl, rp_ex (e.trans e9) hr1, rp_ex (e.trans e9) hr2, hm, dis, q'⟩))) (fun h => nomatch h) fun _ H9 e9 => ⟨_, rfl, e.trans e9⟩
        · obtain ⟨o3, rfl, e⟩ := pv
          exact Evl.s_ret Evl.ev_c fun H9 e9 => k H9 (e17.trans (e.trans e9))
      | tup l =>
        refine Evl.q_when (b := false) (Evl.et_B (ev_isC (Evl.ev_var rfl) hw2 ki_tup_bool)) (fun h => nomatch h) fun _ H2 e2 => ?_
        refine Evl.q_when (b := false) (Evl.et_B (ev_isC (Evl.ev_var rfl) (rp_ex e2 hw2) ki_tup_int)) (fun h => nomatch h) fun _ H3 e3 => ?_
        have e23 := e2.trans e3
        refine Evl.q_when (b := false) (Evl.et_B (ev_isC (Evl.ev_var rfl) (rp_ex e23 hw2) ki_tup_str)) (fun h => nomatch h) fun _ H4 e4 => ?_
        have e24 := e23.trans e4
        refine Evl.q_when (b := false) (Evl.et_B (ev_isC (Evl.ev_var rfl) (rp_ex e24 hw2) ki_tup_dict)) (fun h => nomatch h) fun _ H5 e5 => ?_
        have e25 := e24.trans e5
        refine Evl.q_when (b := false) (Evl.et_and (a := true) (b := false) (Evl.et_B (ev_isC (Evl.ev_var rfl) (rp_ex e25 hw2) ki_tup_tuple)) (fun _ => Evl.et_not (a := true) (Evl.et_B (ev_isC (Evl.ev_var rfl) (rp_ex e25 hw1) ki_tup_tuple)))) (fun h => nomatch h) fun _ H6 e6 => ?_
        have e26 := e25.trans e6
        refine Evl.q_when (b := false) (Evl.et_and (a := false) (b := false) (Evl.et_B (ev_isC (Evl.ev_var rfl) (rp_ex e26 hw2) ki_tup_list)) (fun h => nomatch h)) (fun h => nomatch h) fun _ H7 e7 => ?_
        have e17 := e1.trans (e26.trans e7)
        obtain ⟨k1, a, xs, ek, rfl, ha, l5, pr1⟩ := itsG_of (K := K) (g := .tup l) rfl (rp_ex e17 hv)
        have ek : n = k1 := by omega
        subst ek
        obtain ⟨k1, b, ys, ek, rfl, hb, l6, pr2⟩ := itsG_of (K := K) (g := .tup l) rfl (rp_ex e17 hv2)
        have ek : n = k1 := by omega
        subst ek
        have lx := pair_len pr1
        have ly := pair_len pr2
        refine Evl.q_when (b := false) (Evl.et_is (Evl.et_test (Evl.ev_op (ev_lenL (Evl.ev_var rfl) ha) (ev_lenL (Evl.ev_var rfl) hb) (Evl.rv_ne rfl))) (by rw [show xs.length = ys.length by omega]; simp)) (fun h => nomatch h) fun _ H8 e8 => ?_
        refine Evl.q_forR1 (n := (ys.length : Int)) (Evl.ea_cons (ev_lenL (Evl.ev_var rfl) (ex_q e8 hb)) Evl.ea_nil) ⟨by omega, by omega⟩ (fun i σ' H' => ∃ o3, σ' = [some (.ref a), some (.ref b), none, o3] ∧ Ex H7 H') (fun H9 e9 => ⟨_, rfl, e8.trans e9⟩) (fun i σ' H' hi pv => ?_) fun σ' H' pv => ?_
        · obtain ⟨o3, rfl, e⟩ := pv
          have hi : i < ys.length := by omega
          obtain ⟨x2, hx2⟩ : ∃ x, ys[i]? = some x := ⟨_, List.getElem?_eq_getElem hi⟩
          obtain ⟨x1, hx1⟩ : ∃ x, xs[i]? = some x := ⟨_, List.getElem?_eq_getElem (by omega)⟩
          obtain ⟨y1, hy1, hr1⟩ := pair_back pr1 hx1
          obtain ⟨y2, hy2, hr2⟩ := pair_back pr2 hx2
          rw [hy1] at hy2
          cases hy2
          exact Evl.s_when (b := false) (Evl.et_not (a := true) (Evl.et_B (ev_fn (Evl.ea_cons (Evl.ev_op (Evl.ev_var rfl) (Evl.ev_var rfl) (rv_ixQ (ex_q e ha) (atI_nat hx1))) (Evl.ea_cons (Evl.ev_op (Evl.ev_var rfl) (Evl.ev_var rfl) (rv_ixQ (ex_q e hb) (atI_nat hx2))) Evl.ea_nil)) fun H9 e9 Q' q' => ⟨x1, x2, m, PP, P2, y1, rfl, rp_ex (e.trans e9) hr1, rp_ex (e.trans e9) hr2, hm, dis, q'⟩))) (fun h => nomatch h) fun _ H9 e9 => ⟨_, rfl, e.trans e9⟩
        · obtain ⟨o3, rfl, e⟩ := pv
          exact Evl.s_ret Evl.ev_c fun H9 e9 => k H9 (e17.trans (e.trans e9))
      | dic l =>
        refine Evl.q_when (b := false) (Evl.et_B (ev_isC (Evl.ev_var rfl) hw2 ki_dic_bool)) (fun h => nomatch h) fun _ H2 e2 => ?_
        refine Evl.q_when (b := false) (Evl.et_B (ev_isC (Evl.ev_var rfl) (rp_ex e2 hw2) ki_dic_int)) (fun h => nomatch h) fun _ H3 e3 => ?_
        have e23 := e2.trans e3
        refine Evl.q_when (b := false) (Evl.et_B (ev_isC (Evl.ev_var rfl) (rp_ex e23 hw2) ki_dic_str)) (fun h => nomatch h) fun _ H4 e4 => ?_
        have e24 := e23.trans e4
        refine Evl.q_when (b := true) (Evl.et_B (ev_isC (Evl.ev_var rfl) (rp_ex e24 hw2) ki_dic_dict)) (fun _ H5 e5 => ?_) (fun h => nomatch h)
        have e15 := e1.trans (e24.trans e5)
        have hx1 := rp_ex e15 hv
        obtain ⟨k1, a, es1, ek, rfl, Pa, ha, l5, le1, ok1, ke1, pr1⟩ := rp_dic hx1
        have ek : n = k1 := by omega
        subst ek
        obtain ⟨k1, b, es2, ek, rfl, Pb, hb, l6, le2, ok2, ke2, pr2⟩ := rp_dic (rp_ex e15 hv2)
        have ek : n = k1 := by omega
        subst ek
        refine Evl.q_when (b := false) (Evl.et_or (a := false) (b := false) (Evl.et_not (a := true) (Evl.et_B (ev_isC (Evl.ev_var rfl) hx1 ki_dic_dict))) fun _ => Evl.et_is (Evl.et_test (Evl.ev_op (ev_lenK (Evl.ev_var rfl) ha) (ev_lenK (Evl.ev_var rfl) hb) (Evl.rv_ne rfl))) (by rw [show es1.length = es2.length by omega]; simp)) (fun h => nomatch h) fun _ H6 e6 => ?_
        have ha6 := e6 _ _ ha
        have hb6 := e6 _ _ hb
        have nab : a ≠ b := fun e => dis a Pa (e ▸ Pb)
        refine for_lock (J := fun od => Itk b od es2) (xs := fun _ => none) hb6 (fun od R r => ⟨_, rfl, b, od, rfl, .inl ⟨es2, upd_same, r⟩⟩) (fun od => walk_keys) (fun od j σ' H' => ∃ o2, σ' = [some (.ref a), some (.ref b), o2, none] ∧ Ex (upd H6 b (.frz od (.dK es2))) H') (fun od => ⟨_, rfl, Ex.refl _⟩) (fun od j σ' H' _ ⟨_, _, e⟩ => e _ _ upd_same) (fun od j x σ' H0 H' hlt pv y => ?_) fun od σ' H' pv => ?_
        · obtain ⟨o2, rfl, e⟩ := pv
          obtain ⟨rfl, kk, vj, hkv, rfl⟩ := y
          obtain ⟨⟨nm, dj⟩, hdj, hk, hrj⟩ := pair_back pr2 hkv
          have hk : kk = nm := hk
          subst hk
          have hvj : valV es2 kk = some vj := valV_atK (by rw [ke2]; exact ok2.1) hkv
          obtain ⟨⟨k3, vx⟩, hvx0, hk3, hrx⟩ := pair_at pr1 hdj
          have hk3 : k3 = kk := hk3
          subst hk3
          have hvx : valV es1 k3 = some vx := valV_atK (by rw [ke1]; exact ok1.1) hvx0
          have haH : H' a = some (.dK es1) := e _ _ (by rw [upd_ne nab]; exact ha6)
          have hbH : H' b = some (.frz od (.dK es2)) := e _ _ upd_same
          have hrj' := rp_in hb6 e (rp_ex e6 hrj)
          have hrx' : Rp H' m n (fun z => PP z ∧ z ≠ a) dj vx := rp_ex e (rp_lock hb6 (fun z hz ez => dis z hz.1 (ez ▸ Pb)) (rp_ex e6 hrx))
          refine Evl.s_when (b := false) (Evl.et_or (a := false) (b := false) (fun H7 e7 Q' q' => ⟨_, rfl, _, rfl, a, some vx, rfl, .inl ⟨es1, k3, .inl (e7 _ _ haH), rfl, hvx.symm⟩, _, rfl, q' H7 (Ex.refl _)⟩) fun _ => Evl.et_not (a := true) (Evl.et_B (ev_fn (z := .bl true) (fun H7 e7 Q' q' => ⟨_, rfl, _, rfl, a, vx, rfl, .inl ⟨es1, k3, .inl (e7 _ _ haH), rfl, hvx.symm⟩, _, rfl, _, rfl, b, vj, rfl, .inl ⟨es2, k3, .inr ⟨od, e7 _ _ hbH⟩, rfl, hvj.symm⟩, q' H7 (Ex.refl _)⟩) fun H7 e7 Q' q' => ⟨vx, vj, m, _, _, dj, rfl, rp_ex e7 hrx', rp_ex e7 hrj', hm, fun z h1 h2 => dis z h1.1 h2.1, q'⟩))) (fun h => nomatch h) fun _ H7 e7 => ⟨_, rfl, e.trans e7⟩
        · obtain ⟨o2, rfl, e⟩ := pv
          exact k _ (e15.trans (e6.trans (unlock hb6 e)))
end
end Pk

namespace Pk
open PySem PySem.Spec PyProof.Rows L2 Ssb
open Evl (Ex Ev EvT EvL EvA EvU)
theorem rp_mv {S c : Addr} {H H' : Hp} (mv : Mv S c H H') {m n : Nat} {Z : Addr → Prop} {d : G} {v : V} (n1 : ¬ Z S) (n2 : ¬ Z c) (h : Rp H m n Z d v) : Rp H' m n Z d v := by
  obtain ⟨_, k, cs, h1, h2, _⟩ := mv.a
  refine rp_to (fun b o hb hp => mv.fr b o (fun e => ?_) (fun e => ?_) hb) h
  · rcases hp with hp | ⟨xs, rfl⟩
    · exact n1 (e ▸ hp)
    · rw [e, h1] at hb; cases hb
  · rcases hp with hp | ⟨xs, rfl⟩
    · exact n2 (e ▸ hp)
    · rw [e, h2] at hb; cases hb
theorem gv_mv {S c : Addr} {H H' : Hp} (mv : Mv S c H H') {m n : Nat} {Z : Addr → Prop} {v : V} (n1 : ¬ Z S) (n2 : ¬ Z c) (h : Gv m n Z H v) : Gv m n Z H' v := h.imp fun _ r => rp_mv mv n1 n2 r
section
variable {K : PySem.W.Frag} {σ : L2.St} {H : Hp} {S c : Addr} {m n : Nat} {Z : Addr → Prop} {tS tn te tl : TE} {ta : TA} {D : Ends} {tz : TS}
theorem q_asgM {i : Nat} (h : te σ H fun v H1 => tz D (σ.set i (some v)) H1) : tSeq (tAsg te (gName i)) tz D σ H := h
theorem s_asgM {i : Nat} (h : te σ H fun v H1 => D.nx (σ.set i (some v)) H1) : tAsg te (gName i) D σ H := h
theorem s_retM (h : te σ H D.rt) : tRet te D σ H := h
theorem q_asgLG {i k : Nat} (h : EvAG ta σ H (Gv m n Z) k) (hk : k ≤ 100000) (q : ∀ p vs H1, Ex H H1 → H p = none → H1 p = some (.lst vs) → vs.length = k → (∀ v ∈ vs, Gv m n Z H1 v) → tz D (σ.set i (some (.ref p))) H1) : tSeq (tAsg (tLst ta) (gName i)) tz D σ H :=
  q_asgM (h H (Ex.refl _) _ fun vs H1 e hl hv => ⟨Evl.sz_of (by omega), fun p hp => q p vs _ (e.trans (Ex.new hp)) (Evl.fresh_back e hp) upd_same hl fun v hv' => gv_ex (Ex.new hp) (hv v hv')⟩)
theorem q_asgCat {i k : Nat} {l : Addr} {xs : List V} (hx : H l = some (.lst xs)) (h1 : Ev tl σ H (.ref l)) (h : EvAG ta σ H (Gv m n Z) k) (hk : xs.length + k ≤ 100000)
    (q : ∀ p vs H1, Ex H H1 → H p = none → H1 p = some (.lst (xs ++ vs)) → vs.length = k → (∀ v ∈ vs, Gv m n Z H1 v) → tz D (σ.set i (some (.ref p))) H1) : tSeq (tAsg (tOp rCat tl (tLst ta)) (gName i)) tz D σ H :=
  q_asgM (h1 H (Ex.refl _) _ fun H1 e1 => h H1 e1 _ fun vs H2 e2 hl hv => ⟨Evl.sz_of (by omega), fun p hp => by
    refine ⟨l, p, xs, vs, rfl, rfl, Ex.new hp _ _ ((e1.trans e2) _ _ hx), upd_same, Evl.sz_of (by omega), fun p2 hp2 => ?_⟩
    have e3 := (Ex.new (o := .tup []) hp)
    refine q p2 vs _ ((e1.trans e2).trans ((Ex.new hp).trans (Ex.new hp2))) (Evl.fresh_back ((e1.trans e2).trans (Ex.new hp)) hp2) upd_same hl fun v hv' => gv_ex ((Ex.new hp).trans (Ex.new hp2)) (hv v hv')⟩)
theorem tdraw {k : Int} {Q : VK} (hS : Ev tS σ H (.ref S)) (hn : Ev tn σ H (.int k)) (st : StAt H S c) (k0 : 1 ≤ k) (k1 : k < 1073741824) (q : ∀ H' r, Mv S c H H' → 0 ≤ r → r < k → Q (.int r) H') : tCall spDraw [] E0 (tCons tS (tCons tn tNil)) σ H Q :=
  hS H (Ex.refl _) _ fun H1 e1 => hn H1 e1 _ fun H2 e2 => ⟨S, c, k, rfl, st.ex (e1.trans e2), k0, by omega, fun H' r m r0 r1 => q H' r ((Mv.ex st (e1.trans e2)).trans m) r0 r1⟩
theorem q_forDraw {j : Nat} {k : Int} {tu : TS} (hS : Ev tS σ H (.ref S)) (hn : Ev tn σ H (.int k)) (st : StAt H S c) (k0 : 1 ≤ k) (k1 : k ≤ 100000) (Pv : Nat → L2.St → Hp → Prop) (h0 : ∀ H1, Mv S c H H1 → Pv 0 σ H1)
    (hs : ∀ (i : Nat) σ' H', (i : Int) + 1 < k → Pv i σ' H' → tu { D with nx := Pv (i + 1), ct := Pv (i + 1), bk := tz D } (σ'.set j (some (.int (i : Int)))) H') (hd : ∀ (i : Nat) σ' H', (i : Int) < k → Pv i σ' H' → tz D σ' H') :
    tSeq (tFor (iRng1 (tCons (tCall spDraw [] E0 (tCons tS (tCons tn tNil))) tNil)) (gName j) tu) tz D σ H :=
  tdraw hS hn st k0 (by omega) fun H1 r mv r0 r1 => show tSeq (tFor (iRng1 (tCons (tC (.int r)) tNil)) (gName j) tu) tz D σ H1 from
    Evl.q_forR1 (Evl.ea_cons Evl.ev_c Evl.ea_nil) ⟨r0, by omega⟩ Pv (fun H2 e => h0 H2 (mv.tx e)) (fun i σ' H' hi => hs i σ' H' (by omega)) fun σ' H' p => hd r.toNat σ' H' (by omega) p
theorem t_pickL {Q : VK} {l : Addr} {xs : List V} (hx : H l = some (.lst xs)) (nl : l ≠ S ∧ l ≠ c) (h1 : Ev tl σ H (.ref l)) (hS : Ev tS σ H (.ref S)) (hn : Ev tn σ H (.int (xs.length : Int))) (st : StAt H S c) (h0 : 0 < xs.length) (hz : xs.length ≤ 100000)
    (q : ∀ H' v, Mv S c H H' → v ∈ xs → Q v H') : tOp (rIxL K) tl (tCall spDraw [] E0 (tCons tS (tCons tn tNil))) σ H Q :=
  h1 H (Ex.refl _) _ fun H1 e1 => tdraw (fun H2 e2 => hS H2 (e1.trans e2)) (fun H2 e2 => hn H2 (e1.trans e2)) (st.ex e1) (by omega) (by omega) fun H' r mv r0 r1 => by
    obtain ⟨v, hv, hm⟩ := at_mem r0 r1
    exact ⟨l, xs, r, v, rfl, rfl, Evl.sq_of (mv.fr l _ nl.1 nl.2 (e1 _ _ hx)), hv, q H' v ((Mv.ex st e1).trans mv) hm⟩
theorem t_pickT {Q : VK} {k : Nat} (h : EvAG ta σ H (Gv m n Z) k) (k0 : 0 < k) (k1 : k ≤ 100000) (hS : Ev tS σ H (.ref S)) (hn : Ev tn σ H (.int (k : Int))) (st : StAt H S c) (z1 : ¬ Z S) (z2 : ¬ Z c)
    (q : ∀ H' v, Mv S c H H' → Gv m n Z H' v → Q v H') : tOp (rIxT K) (tTup ta) (tCall spDraw [] E0 (tCons tS (tCons tn tNil))) σ H Q :=
  h H (Ex.refl _) _ fun vs H1 e1 hl hv => ⟨Evl.sz_of (by omega), fun p hp => tdraw (fun H2 e2 => hS H2 (e1.trans ((Ex.new hp).trans e2))) (fun H2 e2 => hn H2 (e1.trans ((Ex.new hp).trans e2))) (st.ex (e1.trans (Ex.new hp))) (by omega) (by omega) fun H' r mv r0 r1 => by
    obtain ⟨v, hv1, hm⟩ := at_mem r0 (by rw [hl]; exact r1)
    exact ⟨p, vs, r, v, rfl, rfl, Evl.st_of (mv.tup upd_same), hv1, q H' v ((Mv.ex st (e1.trans (Ex.new hp))).trans mv) (gv_mv mv z1 z2 (gv_ex (Ex.new hp) (hv v hm)))⟩⟩
end
section
variable {P : Program} {w : World} {K : PySem.W.Frag} {mg : Str → Option Value} {base : Heap} {C_Shape C_InvalidData C_InvalidShape C_StayError : Addr}
def spOdd : Sp := fun vs H Q _ => ∃ S c, vs = [.ref S] ∧ StAt H S c ∧ ∀ H' v, Mv S c H H' → Gv 4 10 (fun b => H b = none) H' v → Q v H'
theorem ok__law_odd (T : Txt K mg C_Shape C_InvalidData C_InvalidShape C_StayError) (R : Prg K mg C_Shape C_InvalidData C_InvalidShape C_StayError) : ∃ f fd, Fn P w K mg base "_law_odd" 3 ["_law_stream_here"] spOdd f fd := by
  obtain ⟨_, _, G__law_draw⟩ := ok__law_draw (P := P) (w := w) (base := base) T R
  obtain ⟨f, fd, at_, F, kp⟩ := R._law_odd
  refine ⟨f, fd, F.ok sc__law_odd (fun vs H Q E h => ?_) (fun cdv A outer s H vs Q E hr h => ?_), at_, kp, F.binds (fun _ _ _ _ _ _ us hl => match us, hl with | [_], _ => rfl)⟩
  · obtain ⟨S, c, rfl, _⟩ := h; rfl
  · obtain ⟨S, c, rfl, st, k⟩ := h
    refine ⟨_, (pss_cons (ps_set (i := 1) sc__law_odd.nd rfl (Or.inl rfl) (pe_lst (pa_cons pe_non (pa_cons pe_int (pa_cons pe_int (pa_cons (pe_un un_neg pe_int) (pa_cons pe_int (pa_cons pe_bl (pa_cons pe_bl (pa_cons pe_int (pa_cons pe_int (pa_cons (pe_op op_pow pe_int pe_int) (pa_cons pe_str (pa_cons pe_str (pa_cons pe_str (pa_cons pe_str (pa_cons pe_str (pa_cons pe_str pa_nil))))))))))))))))))
  (pss_cons (ps_set (i := 1) sc__law_odd.nd rfl (Or.inl rfl) (pe_op op_cat (pv 1) (pe_lst (pa_cons pe_str (pa_cons pe_str (pa_cons pe_str (pa_cons pe_str (pa_cons (pe_tup pa_nil) (pa_cons (pe_tup (pa_cons pe_str pa_nil)) (pa_cons (pe_tup (pa_cons pe_str pa_nil)) (pa_cons (pe_tup (pa_cons pe_str (pa_cons pe_str pa_nil))) (pa_cons (pe_lst pa_nil) (pa_cons (pe_lst (pa_cons pe_str pa_nil)) (pa_cons pe_dnewK (pa_cons (pe_disp (pps_cons pe_str (pe_tup (pa_cons pe_str (pa_cons pe_str pa_nil))) pps_nil) (by rfl) (by rfl) (fun z => by cases z) (by decide)) pa_nil)))))))))))))))
  (pss_cons (ps_set (i := 2) sc__law_odd.nd rfl (Or.inl rfl) (pcl G__law_draw hr (pa_cons (pv 0) (pa_cons (pe_op op_add (pe_callB (r := rLenA K) call_len (by rfl) T.len (by decide +kernel) (pa_cons (pv 1) pa_nil)) pe_int) pa_nil))))
  (pss_cons (ps_if (pt_cmpR op_lt (pv 2) (pe_callB (r := rLenA K) call_len (by rfl) T.len (by decide +kernel) (pa_cons (pv 1) pa_nil)) (nomark _)) (pss_one (ps_ret (pe_ix (r := rIxL K) ix_list (pv 1) (pv 2) (fun _ _ => rfl)))) pss_nil)
  (pss_cons (ps_set (i := 3) sc__law_odd.nd rfl (Or.inl rfl) (pe_ix (r := rIxL K) ix_list (pv 1) (pcl G__law_draw hr (pa_cons (pv 0) (pa_cons (pe_callB (r := rLenA K) call_len (by rfl) T.len (by decide +kernel) (pa_cons (pv 1) pa_nil)) pa_nil))) (fun _ _ => rfl)))
  (pss_cons (ps_for PassesOwn.never rfl (pi_range1 (by rfl) T.range (pa_cons (pcl G__law_draw hr (pa_cons (pv 0) (pa_cons pe_int pa_nil))) pa_nil)) (pg_name (i := 4) sc__law_odd.nd rfl (Or.inl rfl))
    (pss_one (ps_set (i := 3) sc__law_odd.nd rfl (Or.inl rfl) (pe_ix (r := rIxT K) ix_tup (pe_tup (pa_cons (pe_lst (pa_cons (pv 3) pa_nil)) (pa_cons (pe_tup (pa_cons (pv 3) pa_nil)) (pa_cons (pe_disp (pps_cons pe_str (pv 3) pps_nil) (by rfl) (by rfl) (fun z => by cases z) (by decide)) (pa_cons (pe_disp (pps_cons pe_str (pv 3) (pps_cons pe_str pe_dnewK pps_nil)) (by rfl) (by rfl) (fun z => by cases z) (by decide)) pa_nil))))) (pcl G__law_draw hr (pa_cons (pv 0) (pa_cons pe_int pa_nil))) (fun _ _ => rfl)))))
  (pss_one (ps_ret (pv 3))))))))), ?_⟩
    have i_ : ∀ {σ : L2.St} {H1 : Hp} {i : Int}, EvG (tC (.int i)) σ H1 (Gv 4 3 fun b => H b = none) := ep_ev Evl.ev_c gv_int
    have s_ : ∀ {σ : L2.St} {H1 : Hp} {x : Str}, x.length ≤ sB 4 → EvG (tC (.str x)) σ H1 (Gv 4 3 fun b => H b = none) := fun h => ep_str h
    have b_ : ∀ {σ : L2.St} {H1 : Hp} {x : Bool}, EvG (tC (.bl x)) σ H1 (Gv 4 3 fun b => H b = none) := ep_ev Evl.ev_c gv_bl
    refine q_asgLG (m := 4) (n := 3) (Z := fun b => H b = none) (ap_cons (ep_ev Evl.ev_c gv_non) (ap_cons i_ (ap_cons i_ (ap_cons (ep_ev (Evl.ev_un Evl.ev_c fun H1 e Q q => ⟨_, rfl, q H1 (Ex.refl _)⟩) gv_int) (ap_cons i_ (ap_cons b_ (ap_cons b_ (ap_cons i_ (ap_cons i_ (ap_cons (ep_ev (Evl.ev_op Evl.ev_c Evl.ev_c (Evl.rv_I ⟨by decide, by decide, by decide⟩)) gv_int) (ap_cons (s_ (by decide)) (ap_cons (s_ (by decide)) (ap_cons (s_ (by decide)) (ap_cons (s_ (by decide)) (ap_cons (s_ (by decide)) (ap_cons (s_ (by decide)) ap_nil)))))))))))))))) (by decide) fun l1 v1 H1 e1 n1 h1 len1 all1 => ?_
    have z1 : ∀ a, H1 a = none → H a = none := fun a ha => Evl.fresh_back e1 ha
    refine q_asgCat (m := 4) (n := 3) (Z := fun b => H b = none) h1 (Evl.ev_var rfl) (ap_cons (s_ (by decide)) (ap_cons (s_ (by decide)) (ap_cons (s_ (by decide)) (ap_cons (s_ (by decide)) (ap_cons (ep_tup ap_nil (by decide) (by decide)) (ap_cons (ep_tup (ap_cons (ep_up (by decide) (ep_str (n := 1) (by decide))) ap_nil) (by decide) (by decide)) (ap_cons (ep_tup (ap_cons (ep_up (by decide) (ep_str (n := 1) (by decide))) ap_nil) (by decide) (by decide)) (ap_cons (ep_tup (ap_cons (ep_up (by decide) (ep_str (n := 1) (by decide))) (ap_cons (ep_up (by decide) (ep_str (n := 1) (by decide))) ap_nil)) (by decide) (by decide)) (ap_cons (ep_lst ap_nil (by decide) (by decide) z1) (ap_cons (ep_lst (ap_cons (ep_str (n := 1) (by decide)) ap_nil) (by decide) (by decide) z1) (ap_cons (ep_dnew z1) (ap_cons (ep_d1 (by decide) (by decide) z1 fun H2 p e2 hp => ?_) ap_nil)))))))))))) (by omega) fun l2 v2 H2 e2 n2 h2 len2 all2 => ?_
    · exact ep_tup (n := 1) (ap_cons (ep_str (n := 0) (by decide)) (ap_cons (ep_str (n := 0) (by decide)) ap_nil)) (by decide) (by decide)
    · have hx : ∀ {H3 : Hp}, Mv S c H2 H3 → H3 l2 = some (.lst (v1 ++ v2)) := fun mv => mv.fr l2 _ ((st.ex e1).someS n2).1 ((st.ex e1).someS n2).2 h2
      have nl := (st.ex e1).someS n2
      have st2 := st.ex (e1.trans e2)
      have m2 : Mv S c H H2 := .ex st (e1.trans e2)
      have len : (v1 ++ v2).length = 28 := by rw [List.length_append, len1, len2]
      have hall : ∀ v ∈ v1 ++ v2, Gv 4 3 (fun b => H b = none) H2 v := fun v hv => by
        rcases List.mem_append.mp hv with hv | hv
        · exact gv_ex e2 (all1 v hv)
        · exact all2 v hv
      have zS : ¬ H S = none := fun z => (st.someS z).1 rfl
      have zc : ¬ H c = none := fun z => (st.someS z).2 rfl
      generalize v1 ++ v2 = xs at hx len hall h2
      refine q_asgM (tdraw (k := (xs.length : Int) + 1) (Evl.ev_var rfl) (Evl.ev_op (ev_lenL (Evl.ev_var rfl) (.inl (Evl.sq_of h2))) Evl.ev_c Evl.rv_I0) st2 (by omega) (by omega) fun H3 r m3 r0 r1 => ?_)
      refine Evl.q_when (b := decide (r < (xs.length : Int))) (Evl.et_test (Evl.ev_op (Evl.ev_var rfl) (ev_lenL (Evl.ev_var rfl) (.inl (Evl.sq_of (hx m3)))) Evl.rv_I0)) (fun hb H4 e4 => ?_) fun hb H4 e4 => ?_
      · obtain ⟨v, hv, hm⟩ := at_mem r0 (of_decide_eq_true hb)
        exact Evl.s_ret (Evl.ev_op (Evl.ev_var rfl) (Evl.ev_var rfl) (Evl.rv_ixL (Evl.sq_of (e4 _ _ (hx m3))) hv)) fun H5 e5 => k H5 v (m2.trans ((m3.tx e4).tx e5)) (gv_up (by decide) (Nat.le_refl _) (fun _ z => z) (gv_ex (e4.trans e5) (gv_mv m3 zS zc (hall v hm))))
      · have m4 := m3.tx e4
        refine q_asgM (t_pickL (xs := xs) (hx m4) nl (Evl.ev_var rfl) (Evl.ev_var rfl) (ev_lenL (Evl.ev_var rfl) (.inl (Evl.sq_of (hx m4)))) m4.z (by omega) (by omega) fun H5 v m5 hm => ?_)
        have m05 := m2.trans (m4.trans m5)
        refine q_forDraw (k := 7) (Evl.ev_var rfl) Evl.ev_c m05.z (by decide) (by decide) (fun i σ' H' => ∃ v o4, σ' = [some (.ref S), some (.ref l2), some (.int r), some v, o4] ∧ Mv S c H H' ∧ Gv 4 (3 + i) (fun b => H b = none) H' v) (fun H6 m6 => ⟨v, _, rfl, m05.trans m6, gv_mv (m4.trans (m5.trans m6)) zS zc (hall v hm)⟩) (fun i σ' H' hi pv => ?_) fun i σ' H' hi pv => ?_
        · obtain ⟨v, o4, rfl, m6, g⟩ := pv
          have e3i : 3 + (i + 1) = 3 + i + 1 := by omega
          have z6 : ∀ a, H' a = none → H a = none := fun a ha => m6.back ha
          refine s_asgM (t_pickT (m := 4) (n := 3 + i + 1) (Z := fun b => H b = none) (k := 4) (ap_cons (ep_lst (ap_cons (ep_ev (Evl.ev_var rfl) g) ap_nil) (by decide) (by decide) z6) (ap_cons (ep_tup (ap_cons (ep_ev (Evl.ev_var rfl) g) ap_nil) (by decide) (by decide)) (ap_cons (ep_d1 (by decide) (by decide) z6 fun H7 p e7 hp => ep_ev (Evl.ev_var rfl) (gv_ex (Ex.new hp) (gv_ne hp (gv_ex e7 g)))) (ap_cons ?_ ap_nil)))) (by decide) (by decide) (Evl.ev_var rfl) Evl.ev_c m6.z zS zc fun H8 v8 m8 g8 => ⟨v8, _, rfl, m6.trans m8, by rw [e3i]; exact g8⟩)
          have e2i : 3 + i = 2 + i + 1 := by omega
          rw [e2i] at g ⊢
          exact ep_d2 (by decide) (by decide) (by decide) (by decide) z6 (Evl.ev_var rfl) g
        · obtain ⟨v, o4, rfl, m6, g⟩ := pv
          exact Evl.s_ret (Evl.ev_var rfl) fun H7 e7 => k H7 v (m6.tx e7) (gv_up (by omega) (Nat.le_refl _) (fun _ z => z) (gv_ex e7 g))
end
end Pk

namespace Pk
open PySem PySem.Spec PyProof.Rows L2 Ssb
open Evl (Ex Ev EvT EvL EvA EvU)
theorem cut_from {xs : List V} {i : Nat} (h : i ≤ xs.length) : cutV xs (some (i : Int)) none = xs.drop i := by
  unfold cutV
  rw [HT.sIx_none, HT.sIx_nat]
  have : min i xs.length = i := by omega
  rw [this, List.take_of_length_le (by rw [List.length_drop]; omega)]
section
variable {K : PySem.W.Frag} {σ : L2.St} {H : Hp} {tl tn te ta tb : TE} {p : Addr} {xs ys : List V}
theorem el_to {i : Nat} (h : Ev tl σ H (.ref p)) (hp : H p = some (.lst xs)) (hn : Ev tn σ H (.int (i : Int))) : EvL (tSl (rSlL K) tl tNoPart (tPart tn)) σ H (xs.take i) := fun H1 e Q q =>
  h H1 e _ fun H2 e2 => hn H2 (e.trans e2) _ fun H3 e3 => ⟨_, rfl, p, xs, rfl, Evl.sq_of ((e.trans (e2.trans e3)) _ _ hp), fun l hl => q l _ (Evl.fresh_back (e2.trans e3) hl) ((e2.trans e3).trans (Ex.new hl)) (by rw [upd_same, cut_to])⟩
theorem el_from {i : Nat} (h : Ev tl σ H (.ref p)) (hp : H p = some (.lst xs)) (hn : Ev tn σ H (.int (i : Int))) (hi : i ≤ xs.length) : EvL (tSl (rSlL K) tl (tPart tn) tNoPart) σ H (xs.drop i) := fun H1 e Q q =>
  h H1 e _ fun H2 e2 => hn H2 (e.trans e2) _ fun H3 e3 => ⟨_, rfl, p, xs, rfl, Evl.sq_of ((e.trans (e2.trans e3)) _ _ hp), fun l hl => q l _ (Evl.fresh_back (e2.trans e3) hl) ((e2.trans e3).trans (Ex.new hl)) (by rw [upd_same, cut_from hi])⟩
theorem el_cat (h1 : EvL ta σ H xs) (h2 : EvL tb σ H ys) (hz : xs.length + ys.length ≤ 100000) : EvL (tOp rCat ta tb) σ H (xs ++ ys) := fun H1 e Q q =>
  h1 H1 e _ fun a H2 ha e2 hx => h2 H2 (e.trans e2) _ fun b H3 hb e3 hy => ⟨a, b, xs, ys, rfl, rfl, e3 _ _ hx, hy, Evl.sz_of hz, fun l hl => q l _ (Evl.fresh_back (e2.trans e3) hl) ((e2.trans e3).trans (Ex.new hl)) upd_same⟩
theorem el_catV (h1 : Ev ta σ H (.ref p)) (hp : H p = some (.lst xs)) (h2 : EvL tb σ H ys) (hz : xs.length + ys.length ≤ 100000) : EvL (tOp rCat ta tb) σ H (xs ++ ys) := fun H1 e Q q =>
  h1 H1 e _ fun H2 e2 => h2 H2 (e.trans e2) _ fun b H3 hb e3 hy => ⟨p, b, xs, ys, rfl, rfl, (e.trans (e2.trans e3)) _ _ hp, hy, Evl.sz_of hz, fun l hl => q l _ (Evl.fresh_back (e2.trans e3) hl) ((e2.trans e3).trans (Ex.new hl)) upd_same⟩
theorem el_list (h : Ev ta σ H (.ref p)) (hp : SqL K H p xs ∨ SqT K H p xs) : EvL (tCB (rListA K) (tCons ta tNil)) σ H xs := fun H1 e Q q =>
  h H1 e _ fun H2 e2 => ⟨p, xs, rfl, ex_q (e.trans e2) hp, fun l hl => q l _ (Evl.fresh_back e2 hl) (e2.trans (Ex.new hl)) upd_same⟩
theorem el_rev (h : EvL ta σ H xs) : EvL (tLstRev K ta) σ H xs.reverse := fun H1 e Q q =>
  h H1 e _ fun a H2 ha e2 hx => ⟨a, xs, rfl, Evl.sq_of hx, fun l hl => q l _ (Evl.fresh_back e2 hl) (e2.trans (Ex.new hl)) upd_same⟩
end
section
variable {P : Program} {w : World} {K : PySem.W.Frag} {mg : Str → Option Value} {base : Heap} {C_Shape C_InvalidData C_InvalidShape C_StayError : Addr}
def spResized : Sp := fun vs H Q _ => ∃ (S c p : Addr) (xs : List V), vs = [.ref S, .ref p] ∧ StAt H S c ∧ H p = some (.lst xs) ∧ p ≠ S ∧ p ≠ c ∧ 0 < xs.length ∧ xs.length ≤ 40000 ∧
  ∀ H' q ys, Mv S c H H' → H q = none → H' q = some (.lst ys) → ys.length ≤ xs.length + 1 → (∀ y ∈ ys, y ∈ xs) → Q (.ref q) H'
theorem ok__law_resized (T : Txt K mg C_Shape C_InvalidData C_InvalidShape C_StayError) (R : Prg K mg C_Shape C_InvalidData C_InvalidShape C_StayError) : ∃ f fd, Fn P w K mg base "_law_resized" 3 ["_law_stream_here", "_law_parts"] spResized f fd := by
  obtain ⟨_, _, G__law_draw⟩ := ok__law_draw (P := P) (w := w) (base := base) T R
  obtain ⟨f, fd, at_, F, kp⟩ := R._law_resized
  refine ⟨f, fd, F.ok sc__law_resized (fun vs H Q E h => ?_) (fun cdv A outer s H vs Q E hr h => ?_), at_, kp, F.binds (fun _ _ _ _ _ _ us hl => match us, hl with | [_, _], _ => rfl)⟩
  · obtain ⟨S, c, p, xs, rfl, _⟩ := h; rfl
  · obtain ⟨S, c, p, xs, rfl, st, hp, pS, pc, x0, xz, k⟩ := h
    refine ⟨_, (pss_cons (ps_set (i := 2) sc__law_resized.nd rfl (Or.inl rfl) (pcl G__law_draw hr (pa_cons (pv 0) (pa_cons (pe_callB (r := rLenA K) call_len (by rfl) T.len (by decide +kernel) (pa_cons (pv 1) pa_nil)) pa_nil))))
  (pss_cons (ps_set (i := 3) sc__law_resized.nd rfl (Or.inl rfl) (pcl G__law_draw hr (pa_cons (pv 0) (pa_cons pe_int pa_nil))))
  (pss_cons (ps_if (pt_cmpR op_eq (pv 3) pe_int (nomark _)) (pss_one (ps_ret (pe_op op_cat (pe_slice (r := rSlL K) sl_list (pv 1) po_none (po_some (pv 2))) (pe_slice (r := rSlL K) sl_list (pv 1) (po_some (pe_op op_add (pv 2) pe_int)) po_none)))) pss_nil)
  (pss_cons (ps_if (pt_cmpR op_eq (pv 3) pe_int (nomark _)) (pss_one (ps_ret (pe_op op_cat (pe_op op_cat (pe_slice (r := rSlL K) sl_list (pv 1) po_none (po_some (pv 2))) (pe_lst (pa_cons (pe_ix (r := rIxL K) ix_list (pv 1) (pv 2) (fun _ _ => rfl)) pa_nil))) (pe_slice (r := rSlL K) sl_list (pv 1) (po_some (pv 2)) po_none)))) pss_nil)
  (pss_cons (ps_if (pt_cmpR op_eq (pv 3) pe_int (nomark _)) (pss_one (ps_ret (pe_op op_cat (pv 1) (pe_lst (pa_cons (pe_ix (r := rIxL K) ix_list (pv 1) (pv 2) (fun _ _ => rfl)) pa_nil))))) pss_nil)
  (pss_one (ps_ret (pe_lstRev rfl (by rfl) T.list (by rfl) T.reversed (pe_callTy (r := rListA K) call_list_of (by rfl) T.list (by decide +kernel) (pa_cons (pv 1) pa_nil)))))))))), ?_⟩
    have pk : ∀ {H1 : Hp}, Mv S c H H1 → H1 p = some (.lst xs) := fun mv => mv.fr p _ pS pc hp
    refine q_asgM (tdraw (k := (xs.length : Int)) (Evl.ev_var rfl) (ev_lenL (Evl.ev_var rfl) (.inl (Evl.sq_of hp))) st (by omega) (by omega) fun H1 r m1 r0 r1 => ?_)
    obtain ⟨i, rfl⟩ := Int.eq_ofNat_of_zero_le r0
    have hi : i < xs.length := by omega
    obtain ⟨x, hx⟩ : ∃ x, xs[i]? = some x := ⟨_, List.getElem?_eq_getElem hi⟩
    have xm := List.mem_of_getElem? hx
    refine q_asgM (tdraw (k := 4) (Evl.ev_var rfl) Evl.ev_c m1.z (by decide) (by decide) fun H2 wy m2 _ _ => ?_)
    have m02 := m1.trans m2
    have fin : ∀ {Hx : Hp} (q : Addr) (H3 : Hp) (ys : List V), Ex H2 Hx → Hx q = none → Ex Hx H3 → H3 q = some (.lst ys) → ys.length ≤ xs.length + 1 → (∀ y ∈ ys, y ∈ xs) → Q (.ref q) H3 := fun q H3 ys e1 hq e2 h3 hl hm => k H3 q ys (m02.tx (e1.trans e2)) ((m02.tx e1).back hq) h3 hl hm
    have elem : ∀ {Hx : Hp}, Ex H2 Hx → EvL (tLst (tCons (tOp (rIxL K) (tVar 1) (tVar 2)) tNil)) [some (.ref S), some (.ref p), some (.int (i : Int)), some (.int wy)] Hx [x] := fun ex => Evl.el_lst (Evl.ea_cons (Evl.ev_op (Evl.ev_var rfl) (Evl.ev_var rfl) (Evl.rv_ixL (Evl.sq_of (ex _ _ (pk m02))) (atI_nat hx))) Evl.ea_nil) (by show 1 ≤ 100000; decide)
    have lt := List.length_take (i := i) (l := xs)
    have ld := List.length_drop (i := i) (l := xs)
    have ld1 := List.length_drop (i := i + 1) (l := xs)
    refine Evl.q_when (b := decide (V.int wy = V.int 0)) (Evl.et_test (Evl.ev_op (Evl.ev_var rfl) Evl.ev_c (Evl.rv_eq rfl))) (fun hb H3 e3 => ?_) fun hb H3 e3 => ?_
    · refine Evl.s_retL (el_cat (el_to (i := i) (Evl.ev_var rfl) (e3 _ _ (pk m02)) (Evl.ev_var rfl)) (el_from (i := i + 1) (Evl.ev_var rfl) (e3 _ _ (pk m02)) (Evl.ev_is (Evl.ev_op (Evl.ev_var rfl) Evl.ev_c Evl.rv_I0) (by show V.int ((i : Int) + 1) = _; congr 1)) (by omega)) (by omega)) fun q H4 hq e4 h4 => fin q H4 _ e3 hq e4 h4 (by rw [List.length_append]; omega) fun y hy => ?_
      rcases List.mem_append.mp hy with hy | hy
      · exact List.mem_of_mem_take hy
      · exact List.mem_of_mem_drop hy
    refine Evl.q_when (b := decide (V.int wy = V.int 1)) (Evl.et_test (Evl.ev_op (Evl.ev_var rfl) Evl.ev_c (Evl.rv_eq rfl))) (fun hb H4 e4 => ?_) fun hb H4 e4 => ?_
    · have e34 := e3.trans e4
      refine Evl.s_retL (el_cat (el_cat (el_to (i := i) (Evl.ev_var rfl) (e34 _ _ (pk m02)) (Evl.ev_var rfl)) (elem e34) (by rw [List.length_singleton]; omega)) (el_from (i := i) (Evl.ev_var rfl) (e34 _ _ (pk m02)) (Evl.ev_var rfl) (by omega)) (by rw [List.length_append, List.length_singleton]; omega)) fun q H5 hq e5 h5 => fin q H5 _ e34 hq e5 h5 (by rw [List.length_append, List.length_append, List.length_singleton]; omega) fun y hy => ?_
      rcases List.mem_append.mp hy with hy | hy
      · rcases List.mem_append.mp hy with hy | hy
        · exact List.mem_of_mem_take hy
        · rw [List.mem_singleton.mp hy]; exact xm
      · exact List.mem_of_mem_drop hy
    refine Evl.q_when (b := decide (V.int wy = V.int 2)) (Evl.et_test (Evl.ev_op (Evl.ev_var rfl) Evl.ev_c (Evl.rv_eq rfl))) (fun hb H5 e5 => ?_) fun hb H5 e5 => ?_
    · have e35 := e3.trans (e4.trans e5)
      refine Evl.s_retL (el_catV (Evl.ev_var rfl) (e35 _ _ (pk m02)) (elem e35) (by rw [List.length_singleton]; omega)) fun q H6 hq e6 h6 => fin q H6 _ e35 hq e6 h6 (by rw [List.length_append, List.length_singleton]; omega) fun y hy => ?_
      rcases List.mem_append.mp hy with hy | hy
      · exact hy
      · rw [List.mem_singleton.mp hy]; exact xm
    · have e35 := e3.trans (e4.trans e5)
      exact Evl.s_retL (el_rev (el_list (Evl.ev_var rfl) (.inl (Evl.sq_of (e35 _ _ (pk m02)))))) fun q H6 hq e6 h6 => fin q H6 _ e35 hq e6 h6 (by rw [List.length_reverse]; omega) fun y hy => List.mem_reverse.mp hy
end
end Pk

namespace Pk
open PySem PySem.Spec PyProof.Rows L2 Ssb
open Evl (Ex Ev EvT EvL EvA EvU)
section
variable {K : PySem.W.Frag} {σ : L2.St} {H : Hp} {S c a : Addr} {m n : Nat} {Z : Addr → Prop} {tS tn te tv tl : TE} {ta : TA} {D : Ends} {tz tu : TS} {xs ys : List V} {v : V} {es : List (Key × V)}
theorem todd {Q : VK} (hS : Ev tS σ H (.ref S)) (st : StAt H S c) (q : ∀ H' v, Mv S c H H' → Gv 4 10 (fun b => H b = none) H' v → Q v H') : tCall spOdd [] E0 (tCons tS tNil) σ H Q :=
  hS H (Ex.refl _) _ fun H1 e1 => ⟨S, c, rfl, st.ex e1, fun H' v mv g => q H' v ((Mv.ex st e1).trans mv) (gv_up (Nat.le_refl _) (Nat.le_refl _) (fun b hb => Evl.fresh_back e1 hb) g)⟩
theorem t_pickTA {Q : VK} {vs : List V} (h : EvA ta σ H vs) (k0 : 0 < vs.length) (k1 : vs.length ≤ 100000) (hS : Ev tS σ H (.ref S)) (hn : Ev tn σ H (.int (vs.length : Int))) (st : StAt H S c)
    (q : ∀ H' v, Mv S c H H' → v ∈ vs → Q v H') : tOp (rIxT K) (tTup ta) (tCall spDraw [] E0 (tCons tS (tCons tn tNil))) σ H Q :=
  h H (Ex.refl _) _ fun H1 e1 => ⟨Evl.sz_of (by omega), fun p hp => tdraw (fun H2 e2 => hS H2 (e1.trans ((Ex.new hp).trans e2))) (fun H2 e2 => hn H2 (e1.trans ((Ex.new hp).trans e2))) (st.ex (e1.trans (Ex.new hp))) (by omega) (by omega) fun H' r mv r0 r1 => by
    obtain ⟨v, hv1, hm⟩ := at_mem r0 r1
    exact ⟨p, vs, r, v, rfl, rfl, Evl.st_of (mv.tup upd_same), hv1, q H' v ((Mv.ex st (e1.trans (Ex.new hp))).trans mv) hm⟩⟩
theorem ep_ofL (h : EvL te σ H xs) (hl : xs.length ≤ m) (hz : ∀ a, H a = none → Z a) (hv : ∀ x ∈ xs, Gv m n Z H x) : EvG te σ H (Gv m (n + 1) Z) := fun H1 e Q q =>
  h H1 e _ fun p H2 hp e2 hx => q (.ref p) H2 e2 (gv_lst hx (hz p (Evl.fresh_back e hp)) hl fun x hm => gv_ex (e.trans e2) (hv x hm))
/-- v + (..) of a tuple v -/
theorem ep_catU {k : Nat} {p : Addr} (h : Ev tv σ H (.ref p)) (hp : H p = some (.tup xs)) (hx : ∀ x ∈ xs, Gv m n Z H x) (h2 : EvAG ta σ H (Gv m n Z) k) (k1 : 0 < k) (hz : xs.length + k ≤ m) (hm : m ≤ 100000) : EvG (tOp (rCatA K) tv (tTup ta)) σ H (Gv m (n + 1) Z) := fun H1 e Q q =>
  h H1 e _ fun H2 e2 => h2 H2 (e.trans e2) _ fun vs H3 e3 hl hv => ⟨Evl.sz_of (by omega), fun b hb => by
    have e4 := Ex.new (o := .tup vs) hb
    have hp4 := (e.trans (e2.trans (e3.trans e4))) _ _ hp
    refine ⟨p, b, xs, vs, rfl, rfl, Evl.st_of hp4, Evl.st_of upd_same, Evl.sz_of (by omega), fun _ => ?_, fun _ h => ?_, fun _ _ p2 hp2 => ?_⟩
    · exact q _ _ (e2.trans (e3.trans e4)) (gv_tup upd_same (by omega) fun x hx => gv_ex e4 (hv x hx))
    · rw [h] at hl; exact absurd hl (by show ¬ 0 = k; omega)
    · refine q _ _ ((e2.trans (e3.trans e4)).trans (Ex.new hp2)) (gv_tup upd_same (by rw [List.length_append]; omega) fun x hm => ?_)
      rcases List.mem_append.mp hm with hm | hm
      · exact gv_ex ((e.trans (e2.trans (e3.trans e4))).trans (Ex.new hp2)) (hx x hm)
      · exact gv_ex (e4.trans (Ex.new hp2)) (hv x hm)⟩
/-- v + [..] of a list v -/
theorem ep_catL {k : Nat} {p : Addr} (h : Ev tv σ H (.ref p)) (hp : H p = some (.lst xs)) (hx : ∀ x ∈ xs, Gv m n Z H x) (h2 : EvAG ta σ H (Gv m n Z) k) (hz : xs.length + k ≤ m) (hm : m ≤ 100000) (hzz : ∀ a, H a = none → Z a) : EvG (tOp rCat tv (tLst ta)) σ H (Gv m (n + 1) Z) := fun H1 e Q q =>
  h H1 e _ fun H2 e2 => h2 H2 (e.trans e2) _ fun vs H3 e3 hl hv => ⟨Evl.sz_of (by omega), fun b hb => by
    have e4 := Ex.new (o := .lst vs) hb
    refine ⟨p, b, xs, vs, rfl, rfl, (e.trans (e2.trans (e3.trans e4))) _ _ hp, upd_same, Evl.sz_of (by omega), fun p2 hp2 => ?_⟩
    refine q _ _ ((e2.trans (e3.trans e4)).trans (Ex.new hp2)) (gv_lst upd_same (hzz p2 (Evl.fresh_back (e.trans (e2.trans (e3.trans e4))) hp2)) (by rw [List.length_append]; omega) fun x hm => ?_)
    rcases List.mem_append.mp hm with hm | hm
    · exact gv_ex ((e.trans (e2.trans (e3.trans e4))).trans (Ex.new hp2)) (hx x hm)
    · exact gv_ex (e4.trans (Ex.new hp2)) (hv x hm)⟩
/-- tuple(v): a new tuple of a list's items, or v itself -/
theorem ep_tupOf {p : Addr} (h : Ev tv σ H (.ref p)) (hp : H p = some (.lst xs)) (hx : ∀ x ∈ xs, Gv m n Z H x) (hl : xs.length ≤ m) : EvG (tCB (rTupA K) (tCons tv tNil)) σ H (Gv m (n + 1) Z) := fun H1 e Q q =>
  h H1 e _ fun H2 e2 => ⟨p, xs, rfl, .inl ⟨Evl.sq_of ((e.trans e2) _ _ hp), fun l hl2 => q _ _ (e2.trans (Ex.new hl2)) (gv_tup upd_same hl fun x hm => gv_ex ((e.trans e2).trans (Ex.new hl2)) (hx x hm))⟩⟩
theorem q_enumD {j1 j2 : Nat} (h : Ev tv σ H (.ref a)) (ha : H a = some (.dK es)) (Pv : Addr → Nat → L2.St → Hp → Prop) (h0 : ∀ lp H1, Ex H H1 → H lp = none → H1 lp = some (.lst (es.map fun kv => kV kv.1)) → Pv lp 0 σ H1)
    (hG : ∀ lp i σ' H', Pv lp i σ' H' → H' lp = some (.lst (es.map fun kv => kV kv.1)))
    (hs : ∀ (lp : Addr) (i : Nat) σ' H' (kv : Key × V), es[i]? = some kv → Pv lp i σ' H' → ∀ H2, Ex H' H2 → tu { D with nx := Pv lp (i + 1), ct := Pv lp (i + 1), bk := tz D } ((σ'.set j1 (some (.int (i : Int)))).set j2 (some (kV kv.1))) H2)
    (hd : ∀ lp σ' H', Pv lp es.length σ' H' → tz D σ' H') :
    tSeq (tFor (iEnum K (tCons (tCB (fun xs H Q => ∃ (a : Addr) (kvs : List (Key × V)), xs = [.ref a] ∧ Rd H a (.dK kvs) ∧ ∀ p, H p = none → Q (.ref p) (upd H p (.lst (kvs.map fun kv => kV kv.1)))) (tCons tv tNil)) tNil)) (gTup K 2 (gCons (gName j1) (gCons (gName j2) gNil))) tu) tz D σ H :=
  h H (Ex.refl _) _ fun H1 e1 => ⟨a, es, rfl, .inl (e1 _ _ ha), fun lp hlp => ⟨lp, es.map fun kv => kV kv.1, rfl, Evl.sq_of upd_same, for_it walk_enum (fun i σ' H' => Pv lp i σ' H') (h0 lp _ (e1.trans (Ex.new hlp)) (Evl.fresh_back e1 hlp) upd_same) (fun i σ' H' _ p => Evl.sq_of (hG lp i σ' H' p)) (fun i x σ' H0 H' hi pv y => by
    obtain ⟨Tq, x1, y1, rfl, nT, rfl, hx1, hy1⟩ := y
    have hx1 : V.int (i : Int) = x1 := Option.some.inj hx1
    subst hx1
    have hy1 : (es.map fun kv : Key × V => kV kv.1)[i]? = some y1 := hy1
    rw [List.getElem?_map] at hy1
    cases hes : es[i]? with
    | none => rw [hes] at hy1; cases hy1
    | some kv =>
      rw [hes] at hy1
      have hy1 : kV kv.1 = y1 := Option.some.inj hy1
      subst hy1
      exact ⟨Tq, _, rfl, Evl.st_of upd_same, rfl, _, _, rfl, _, _, rfl, rfl, hs lp i σ' H0 kv hes pv _ (Ex.new nT)⟩) fun σ' H' pv => hd lp σ' H' (by rw [List.length_map] at pv; exact pv)⟩⟩
end
theorem rp_entries {H : Hp} {m k : Nat} {Z : Addr → Prop} {a : Addr} {l : List KG} {es : List (Key × V)} (okk : okK m l) (pr : Paired (fun (q : KG) (e : Key × V) => e.1 = q.1 ∧ Rp H m k (fun b => Z b ∧ b ≠ a) q.2 e.2) l es) : Ge m k Z H es := by
  refine ⟨by rw [pair_keysG pr]; exact okk.1, fun e he => ?_⟩
  obtain ⟨q, hq, h1, h2⟩ := pair_memB pr e he
  exact ⟨by rw [h1]; exact okk.2 q hq, q.2, rp_S (fun b hb => hb.1) h2⟩
end Pk

namespace Pk
open PySem PySem.Spec PyProof.Rows L2 Ssb
open Evl (Ex Ev EvT EvL EvA EvU)
section
variable {P : Program} {w : World} {K : PySem.W.Frag} {mg : Str → Option Value} {base : Heap} {C_Shape C_InvalidData C_InvalidShape C_StayError : Addr}
def spChanged : Sp := fun vs H Q _ => ∃ (S c : Addr) (v : V) (m n : Nat) (Z : Addr → Prop), vs = [.ref S, v] ∧ StAt H S c ∧ Gv m n Z H v ∧ ¬ Z S ∧ ¬ Z c ∧ 4 ≤ m ∧ m ≤ 7 ∧
  ∀ H' v', Mv S c H H' → Gv (m + 1) (n + 11) (fun b => Z b ∨ H b = none) H' v' → Q v' H'
theorem ok__law_changed (T : Txt K mg C_Shape C_InvalidData C_InvalidShape C_StayError) (R : Prg K mg C_Shape C_InvalidData C_InvalidShape C_StayError) : ∃ f fd, Fn P w K mg base "_law_changed" 5 ["_law_stream_here", "_law_value"] spChanged f fd := by
  obtain ⟨_, _, G__law_draw⟩ := ok__law_draw (P := P) (w := w) (base := base) T R
  obtain ⟨_, _, G__law_odd⟩ := ok__law_odd (P := P) (w := w) (base := base) T R
  obtain ⟨_, _, G__law_resized⟩ := ok__law_resized (P := P) (w := w) (base := base) T R
  obtain ⟨f, fd, at_, F, kp⟩ := R._law_changed
  refine ⟨f, fd, F.ok sc__law_changed (fun vs H Q E h => ?_) (fun cdv A outer s H vs Q E hr h => ?_), at_, kp, F.binds (fun _ _ _ _ _ _ us hl => match us, hl with | [_, _], _ => rfl)⟩
  · obtain ⟨S, c, v, m, n, Z, rfl, _⟩ := h; rfl
  · obtain ⟨S, c, v, m, n, Z, rfl, st, ⟨g, hg⟩, nZS, nZc, m16, mz, k⟩ := h
    refine ⟨_, (pss_cons (ps_set (i := 2) sc__law_changed.nd rfl (Or.inl rfl) (pcl G__law_draw hr (pa_cons (pv 0) (pa_cons pe_int pa_nil))))
  (pss_cons (ps_if (pt_cmpR op_eq (pv 2) pe_int (nomark _)) (pss_one (ps_ret (pcl G__law_odd hr (pa_cons (pv 0) pa_nil)))) pss_nil)
  (pss_cons (ps_if (PW.pt (pw_or (pt_val (pe_callB (r := rIsi K) call_isi (by rfl) T.isinstance (by decide +kernel) (pa_cons (pv 1) (pa_cons (pe_bltn (v := .ty "bool") (by rfl) T.bool boot_bool rfl) pa_nil)))) (pw_or1 (pt_cmpR op_isN (pv 1) pe_non (nomark _))))) (pss_one (ps_ret (pcl G__law_odd hr (pa_cons (pv 0) pa_nil)))) pss_nil)
  (pss_cons (ps_if (pt_val (pe_callB (r := rIsi K) call_isi (by rfl) T.isinstance (by decide +kernel) (pa_cons (pv 1) (pa_cons (pe_bltn (v := .ty "int") (by rfl) T.int boot_int rfl) pa_nil)))) (pss_one (ps_ret (pe_op op_add (pv 1) (pe_ix (r := rIxT K) ix_tup (pe_tup (pa_cons pe_int (pa_cons (pe_un un_neg pe_int) (pa_cons pe_int (pa_cons (pe_op op_sub (pe_un un_neg (pv 1)) pe_int) pa_nil))))) (pcl G__law_draw hr (pa_cons (pv 0) (pa_cons pe_int pa_nil))) (fun _ _ => rfl))))) pss_nil)
  (pss_cons (ps_if (pt_val (pe_callB (r := rIsi K) call_isi (by rfl) T.isinstance (by decide +kernel) (pa_cons (pv 1) (pa_cons (pe_bltn (v := .ty "str") (by rfl) T.str boot_str rfl) pa_nil)))) (pss_one (ps_ret (pe_ix (r := rIxT K) ix_tup (pe_tup (pa_cons (pe_op op_add_str (pv 1) pe_str) (pa_cons (show PE _ _ (tBM0 K _ _ _) from pe_bm0 PySem.F.plainAttrs_str PySem.F.slot_str_upper PySem.F.type_str_upper mt_upper (pv 1)) (pa_cons (pe_slice sl_str (pv 1) (po_some pe_int) po_none) (pa_cons pe_str (pa_cons (pe_op op_add_str (pv 1) pe_str) pa_nil)))))) (pcl G__law_draw hr (pa_cons (pv 0) (pa_cons pe_int pa_nil))) (fun _ _ => rfl)))) pss_nil)
  (pss_cons (ps_if (pt_val (pe_callB (r := rIsi K) call_isi (by rfl) T.isinstance (by decide +kernel) (pa_cons (pv 1) (pa_cons (pe_bltn (v := .ty "dict") (by rfl) T.dict boot_dict rfl) pa_nil)))) (pss_cons (ps_set (i := 3) sc__law_changed.nd rfl (Or.inl rfl) pe_dnewK)
  (pss_cons (ps_set (i := 4) sc__law_changed.nd rfl (Or.inl rfl) (pcl G__law_draw hr (pa_cons (pv 0) (pa_cons (pe_op op_add (pe_callB call_lenD (by rfl) T.len (by decide +kernel) (pa_cons (pv 1) pa_nil)) pe_int) pa_nil))))
  (pss_cons (ps_for PassesOwn.never rfl (pi_enum (by rfl) T.enumerate (pa_cons (pe_callTy (call_listD rfl) (by rfl) T.list (by decide +kernel) (pa_cons (pv 1) pa_nil)) pa_nil)) (show PG _ _ (gTup K 2 _) from pg_tup (n := 2) rfl (pgs_cons (pg_name (i := 5) sc__law_changed.nd rfl (Or.inl rfl)) (pgs_cons (pg_name (i := 6) sc__law_changed.nd rfl (Or.inl rfl)) pgs_nil)))
    (pss_one (ps_if (PW.pt (pw_or (pt_cmpR op_eq (pv 2) pe_int (nomark _)) (pw_or1 (pt_cmpR op_ne (pv 5) (pv 4) (nomark _))))) (pss_one (ps_dput (hu_of hr) (pv 3) (pv 6) (pe_dget (hu_of hr) (pv 1) (pv 6) (fun _ _ => rfl)) rfl)) pss_nil)))
  (pss_cons (ps_if (PW.pt (pw_or (pt_cmpR op_eq (pv 2) pe_int (nomark _)) (pw_or1 (pt_cmpR op_eq (pv 4) (pe_callB call_lenD (by rfl) T.len (by decide +kernel) (pa_cons (pv 1) pa_nil)) (nomark _))))) (pss_one (ps_dput (hu_of hr) (pv 3) (pe_ix (r := rIxT K) ix_tup (pe_tup (pa_cons pe_str (pa_cons pe_str (pa_cons pe_str (pa_cons pe_int pa_nil))))) (pcl G__law_draw hr (pa_cons (pv 0) (pa_cons pe_int pa_nil))) (fun _ _ => rfl)) (pcl G__law_odd hr (pa_cons (pv 0) pa_nil)) rfl)) pss_nil)
  (pss_one (ps_ret (pv 3))))))) pss_nil)
  (pss_cons (ps_if (PW.pt (pw_or (pt_cmpR op_eq (pe_callB (r := rLenA K) call_len (by rfl) T.len (by decide +kernel) (pa_cons (pv 1) pa_nil)) pe_int (nomark _)) (pw_or1 (pt_cmpR op_eq (pv 2) pe_int (nomark _))))) (pss_cons (ps_if (pt_val (pe_callB (r := rIsi K) call_isi (by rfl) T.isinstance (by decide +kernel) (pa_cons (pv 1) (pa_cons (pe_bltn (v := .ty "tuple") (by rfl) T.tuple boot_tuple rfl) pa_nil)))) (pss_one (ps_ret (pe_ix (r := rIxT K) ix_tup (pe_tup (pa_cons (pe_callTy (r := rListA K) call_list_of (by rfl) T.list (by decide +kernel) (pa_cons (pv 1) pa_nil)) (pa_cons (pe_op (r := rCatA K) op_catA (pv 1) (pe_tup (pa_cons pe_int pa_nil))) (pa_cons (pe_op (r := rCatA K) op_catA (pv 1) (pe_tup (pa_cons (pe_tup pa_nil) pa_nil))) pa_nil)))) (pcl G__law_draw hr (pa_cons (pv 0) (pa_cons pe_int pa_nil))) (fun _ _ => rfl)))) pss_nil)
  (pss_one (ps_ret (pe_ix (r := rIxT K) ix_tup (pe_tup (pa_cons (pe_callTy (r := rTupA K) call_tuple_of (by rfl) T.tuple (by decide +kernel) (pa_cons (pv 1) pa_nil)) (pa_cons (pe_op op_cat (pv 1) (pe_lst (pa_cons pe_int pa_nil))) (pa_cons (pe_op op_cat (pv 1) (pe_lst (pa_cons (pe_tup pa_nil) pa_nil))) pa_nil)))) (pcl G__law_draw hr (pa_cons (pv 0) (pa_cons pe_int pa_nil))) (fun _ _ => rfl))))) pss_nil)
  (pss_cons (ps_set (i := 7) sc__law_changed.nd rfl (Or.inl rfl) (pcl G__law_resized hr (pa_cons (pv 0) (pa_cons (pe_callTy (r := rListA K) call_list_of (by rfl) T.list (by decide +kernel) (pa_cons (pv 1) pa_nil)) pa_nil))))
  (pss_cons (ps_if (pt_val (pe_callB (r := rIsi K) call_isi (by rfl) T.isinstance (by decide +kernel) (pa_cons (pv 1) (pa_cons (pe_bltn (v := .ty "tuple") (by rfl) T.tuple boot_tuple rfl) pa_nil)))) (pss_one (ps_ret (pe_callTy (r := rTupA K) call_tuple_of (by rfl) T.tuple (by decide +kernel) (pa_cons (pv 7) pa_nil)))) pss_nil)
  (pss_one (ps_ret (pv 7)))))))))))), ?_⟩
    have s4 := sB_succ m
    have s8 := sB_8 (m := m) (by omega)
    have s2 := sB_4 m16
    have nS : ¬ (Z S ∨ H S = none) := fun z => z.elim nZS fun z => (st.someS z).1 rfl
    have nc : ¬ (Z c ∨ H c = none) := fun z => z.elim nZc fun z => (st.someS z).2 rfl
    have zz : ∀ {H1 : Hp}, Mv S c H H1 → ∀ a, H1 a = none → Z a ∨ H a = none := fun mv a ha => .inr (mv.back ha)
    have odd : ∀ {H1 : Hp} {σ : L2.St} {D : Ends}, Mv S c H H1 → σ[0]? = some (some (V.ref S)) → (∀ H' v', Mv S c H H' → Gv (m + 1) (n + 11) (fun b => Z b ∨ H b = none) H' v' → D.rt v' H') → tRet (tCall spOdd [] E0 (tCons (tVar 0) tNil)) D σ H1 := fun mv h0 q =>
      s_retM (todd (Evl.ev_var h0) mv.z fun H' v' m2 g => q H' v' (mv.trans m2) (gv_up (by omega) (by omega) (fun b hb => .inr (mv.back hb)) g))
    refine q_asgM (tdraw (k := 3) (Evl.ev_var rfl) Evl.ev_c st (by decide) (by decide) fun H1 wy m1 _ _ => ?_)
    refine Evl.q_when (b := decide (V.int wy = V.int 0)) (Evl.et_test (Evl.ev_op (Evl.ev_var rfl) Evl.ev_c (Evl.rv_eq rfl))) (fun hb H2 e2 => odd (m1.tx e2) rfl k) fun hb H2 e2 => ?_
    have m2 := m1.tx e2
    have hg2 := rp_mv m2 nZS nZc hg
    refine Evl.q_when (b := isK g "bool" || decide (v = .non)) (Evl.et_or (Evl.et_B (ev_isC (Evl.ev_var rfl) hg2 rfl)) fun _ => Evl.et_test (Evl.ev_op (Evl.ev_var rfl) Evl.ev_c rv_isN)) (fun hb H3 e3 => odd (m2.tx e3) rfl k) fun hb H3 e3 => ?_
    have m3 := m2.tx e3
    have hg3 := rp_mv m3 nZS nZc hg
    obtain ⟨n, rfl⟩ := rp_pos hg
    cases g with
    | non =>
      have e : v = .non := hg
      rw [e] at hb; simp at hb
    | bl b => rw [ki_bl_bool] at hb; cases hb
    | int i =>
      have e : v = .int i := hg
      subst e
      refine Evl.q_when (b := true) (Evl.et_B (ev_isC (Evl.ev_var rfl) hg3 ki_int_int)) (fun _ H4 e4 => ?_) fun h => nomatch h
      refine s_retM ⟨_, rfl, t_pickTA (vs := [.int 1, .int (-1), .int 1000001, .int (-i - 1)]) (Evl.ea_cons Evl.ev_c (Evl.ea_cons (Evl.ev_un Evl.ev_c Evl.ru_neg) (Evl.ea_cons Evl.ev_c (Evl.ea_cons (Evl.ev_op (Evl.ev_un (Evl.ev_var rfl) Evl.ru_neg) Evl.ev_c Evl.rv_I0) Evl.ea_nil)))) (by show 0 < 4; decide) (by show 4 ≤ 100000; decide) (Evl.ev_var rfl) Evl.ev_c (m3.tx e4).z fun H5 x m5 hx => ?_⟩
      obtain ⟨j, rfl⟩ : ∃ j, x = .int j := by
        simp only [List.mem_cons, List.not_mem_nil, or_false] at hx
        rcases hx with h | h | h | h <;> exact ⟨_, h⟩
      exact ⟨i, j, rfl, rfl, k H5 _ ((m3.tx e4).trans m5) gv_int⟩
    | str x =>
      obtain ⟨e, xl⟩ : v = .str x ∧ x.length ≤ sB m := hg
      subst e
      refine Evl.q_when (b := false) (Evl.et_B (ev_isC (Evl.ev_var rfl) hg3 ki_str_int)) (fun h => nomatch h) fun _ H4 e4 => ?_
      have m4 := m3.tx e4
      refine Evl.q_when (b := true) (Evl.et_B (ev_isC (Evl.ev_var rfl) (rp_ex e4 hg3) ki_str_str)) (fun _ H5 e5 => ?_) fun h => nomatch h
      have m5 := m4.tx e5
      have up := PyProof.Rows.len_upper x
      have ap : ∀ (y : Str), y.length ≤ 1 → ∀ {Hx : Hp}, EvG (tOp (fun x y H Q => ∃ i j, x = .str i ∧ y = .str j ∧ i.length + j.length ≤ sizeLine ∧ Q (.str (i ++ j)) H) (tVar 1) (tC (.str y))) [some (.ref S), some (.str x), some (.int wy), none, none, none, none, none] Hx (Gv (m + 1) (n + 1) fun b => Z b ∨ H b = none) := fun y hy Hx =>
        ep_ev (Evl.ev_op (z := .str (x ++ y)) (Evl.ev_var rfl) Evl.ev_c fun H1 e Q q => ⟨x, y, rfl, rfl, Evl.sz_of (by omega), q H1 (Ex.refl _)⟩) (gv_str (by rw [PySem.Str.length_append]; omega))
      refine s_retM (t_pickT (m := m + 1) (n := n + 1) (Z := fun b => Z b ∨ H b = none) (k := 5) (ap_cons (ap _ (by decide)) (ap_cons (ep_ev (v := .str (Txt.upper x)) (fun H1 e Q q => ⟨_, rfl, rfl, x, rfl, rfl, by omega, q H1 (Ex.refl _)⟩) (gv_str (by omega))) (ap_cons (ep_ev (v := .str (cutS x (some 1) none)) (fun H1 e Q q => ⟨_, rfl, _, rfl, x, rfl, Evl.sz_of (by omega), q H1 (Ex.refl _)⟩) (gv_str (by have := cutS_length x (some 1) none; omega))) (ap_cons (ep_ev Evl.ev_c (gv_str (by show 1 ≤ _; omega))) (ap_cons (ap _ (by decide)) ap_nil))))) (by decide) (by decide) (Evl.ev_var rfl) Evl.ev_c m5.z nS nc fun H6 v6 m6 g6 => k H6 v6 (m5.trans m6) (gv_up (by omega) (Nat.le_refl _) (fun _ z => z) g6))
    | dic l =>
      obtain ⟨n', a, es, en, rfl, Za, ha, hl, le, okk, ekk, pr⟩ := rp_dic hg
      obtain rfl : n = n' := by omega
      have aS : a ≠ S := fun e => nZS (e ▸ Za)
      have ac : a ≠ c := fun e => nZc (e ▸ Za)
      have hak : ∀ {H1 : Hp}, Mv S c H H1 → H1 a = some (.dK es) := fun mv => mv.fr a _ aS ac ha
      have ge : Ge m n Z H es := rp_entries okk pr
      refine Evl.q_when (b := false) (Evl.et_B (ev_isC (Evl.ev_var rfl) hg3 ki_dic_int)) (fun h => nomatch h) fun _ H4 e4 => ?_
      refine Evl.q_when (b := false) (Evl.et_B (ev_isC (Evl.ev_var rfl) (rp_ex e4 hg3) ki_dic_str)) (fun h => nomatch h) fun _ H5 e5 => ?_
      refine Evl.q_when (b := true) (Evl.et_B (ev_isC (Evl.ev_var rfl) (rp_ex (e4.trans e5) hg3) ki_dic_dict)) (fun _ H6 e6 => ?_) fun h => nomatch h
      have m6 := m3.tx (e4.trans (e5.trans e6))
      refine q_asgM fun p hp => ?_
      have pH : H p = none := m6.back hp
      have pS := m6.z.someS hp
      have m7 := m6.tx (Ex.new (o := .dK []) hp)
      refine q_asgM (tdraw (k := (es.length : Int) + 1) (Evl.ev_var rfl) (Evl.ev_op (ev_lenK (Evl.ev_var rfl) (hak m7)) Evl.ev_c Evl.rv_I0) m7.z (by omega) (by omega) fun H8 r m8 r0 r1 => ?_)
      have p8 : H8 p = some (.dK []) := m8.fr p _ pS.1 pS.2 upd_same
      have m08 := m7.trans m8
      have put : ∀ {Hx : Hp} {es2 : List (Key × V)} {key : Key} {x : V}, Hx p = some (.dK es2) → Ge (m + 1) (n + 10) (fun b => (Z b ∨ H b = none) ∧ b ≠ p) Hx es2 → kLen key ≤ sB (m + 1) → Gv (m + 1) (n + 10) (fun b => (Z b ∨ H b = none) ∧ b ≠ p) Hx x →
          Ge (m + 1) (n + 10) (fun b => (Z b ∨ H b = none) ∧ b ≠ p) (upd Hx p (.dK (putK es2 key x))) (putK es2 key x) ∧ (putK es2 key x).length ≤ es2.length + 1 := fun hx g2 hk gx => by
        obtain ⟨g3, l3⟩ := ge_put g2 hk gx
        exact ⟨ge_imp g3 (fun _ h => gv_upd hx (fun _ z => nomatch z) (fun b z => z.2) h) (Nat.le_refl _), l3⟩
      refine q_enumD (a := a) (es := es) (Evl.ev_var rfl) (hak m08) (fun lp i σ' H' => ∃ (o5 o6 : Option V) (es2 : List (Key × V)), σ' = [some (.ref S), some (.ref a), some (.int wy), some (.ref p), some (.int r), o5, o6, none] ∧ Mv S c H H' ∧ H' lp = some (.lst (es.map fun kv => kV kv.1)) ∧ lp ≠ p ∧ H' p = some (.dK es2) ∧ Ge (m + 1) (n + 10) (fun b => (Z b ∨ H b = none) ∧ b ≠ p) H' es2 ∧ es2.length ≤ i)
        (fun lp H9 e9 hlp hl9 => ⟨_, _, [], rfl, m08.tx e9, hl9, (fun z => by rw [z, p8] at hlp; cases hlp), e9 _ _ p8, ⟨List.nodup_nil, fun e he => nomatch he⟩, Nat.le_refl _⟩) (fun lp i σ' H' ⟨_, _, _, _, _, h, _⟩ => h) (fun lp i σ' H' kv hkv pv H9 e9 => ?_) fun lp σ' H' pv => ?_
      · obtain ⟨o5, o6, es2, rfl, m9, hlp, nlp, hp9, g9, l9⟩ := pv
        obtain ⟨key, x⟩ := kv
        have il : i < es.length := (List.getElem?_eq_some_iff.mp hkv).1
        have kvm := List.mem_of_getElem? hkv
        refine Evl.s_when (b := decide (V.int wy = V.int 2) || !decide (V.int (i : Int) = V.int r)) (Evl.et_or (Evl.et_test (Evl.ev_op (Evl.ev_var rfl) Evl.ev_c (Evl.rv_eq rfl))) fun _ => Evl.et_test (Evl.ev_op (Evl.ev_var rfl) (Evl.ev_var rfl) (Evl.rv_ne rfl))) (fun hb2 H10 e10 => ?_) fun hb2 H10 e10 => ?_
        · have m10 := m9.tx (e9.trans e10)
          have hp10 := (e9.trans e10) _ _ hp9
          have gx : Gv (m + 1) (n + 10) (fun b => (Z b ∨ H b = none) ∧ b ≠ p) H10 x := gv_up (by omega) (by omega) (fun b hb => ⟨.inl hb.1, hb.2⟩) (gv_mv (Z := fun b => Z b ∧ b ≠ p) m10 (fun z => nZS z.1) (fun z => nZc z.1) (gv_ne pH (ge.2 _ kvm).2))
          obtain ⟨g11, l11⟩ := put hp10 (ge_imp g9 (fun _ h => gv_ex (e9.trans e10) h) (Nat.le_refl _)) (key := key) (Nat.le_trans (ge.2 _ kvm).1 (by omega)) gx
          exact ⟨_, rfl, _, rfl, a, x, rfl, .inl ⟨es, key, .inl (hak m10), rfl, (valV_atK ge.1 hkv).symm⟩, _, rfl, _, rfl, p, _, rfl, .inl ⟨es2, key, hp10, rfl, Evl.sz_lt (by omega), rfl⟩, _, _, _, rfl, m10.mut pH, by rw [upd_ne nlp]; exact (e9.trans e10) _ _ hlp, nlp, upd_same, g11, by omega⟩
        · exact ⟨_, _, es2, rfl, m9.tx (e9.trans e10), (e9.trans e10) _ _ hlp, nlp, (e9.trans e10) _ _ hp9, ge_imp g9 (fun _ h => gv_ex (e9.trans e10) h) (Nat.le_refl _), by omega⟩
      · obtain ⟨o5, o6, es2, rfl, m9, hlp, nlp, hp9, g9, l9⟩ := pv
        have fin : ∀ {Hx : Hp} {es3 : List (Key × V)}, Mv S c H Hx → Hx p = some (.dK es3) → Ge (m + 1) (n + 10) (fun b => (Z b ∨ H b = none) ∧ b ≠ p) Hx es3 → es3.length ≤ es.length + 1 → ∀ H11, Ex Hx H11 → Q (.ref p) H11 := fun mx hx gx lx H11 e11 =>
          k H11 _ (mx.tx e11) (gv_up (by omega) (Nat.le_refl _) (fun _ z => z) (gv_dic (e11 _ _ hx) (.inr pH) (by omega) (ge_imp gx (fun _ h => gv_ex e11 h) (Nat.le_refl _))))
        refine Evl.q_when (b := decide (V.int wy = V.int 2) || decide (V.int r = V.int (es.length : Int))) (Evl.et_or (Evl.et_test (Evl.ev_op (Evl.ev_var rfl) Evl.ev_c (Evl.rv_eq rfl))) fun _ => Evl.et_test (Evl.ev_op (Evl.ev_var rfl) (ev_lenK (Evl.ev_var rfl) (hak m9)) (Evl.rv_eq rfl))) (fun hb2 H10 e10 => ?_) fun hb2 H10 e10 => ?_
        · have m10 := m9.tx e10
          refine todd (Evl.ev_var rfl) m10.z fun H11 y m11 gy => ?_
          refine ⟨_, rfl, t_pickTA (vs := [.str "more", .str "zz", .str "a", .int 7]) (Evl.ea_cons Evl.ev_c (Evl.ea_cons Evl.ev_c (Evl.ea_cons Evl.ev_c (Evl.ea_cons Evl.ev_c Evl.ea_nil)))) (by show 0 < 4; decide) (by show 4 ≤ 100000; decide) (Evl.ev_var rfl) Evl.ev_c m11.z fun H12 x m12 hx => ?_⟩
          obtain ⟨key, rfl, kl⟩ : ∃ key : Key, x = kV key ∧ kLen key ≤ 4 := by
            simp only [List.mem_cons, List.not_mem_nil, or_false] at hx
            rcases hx with h | h | h | h
            · exact ⟨Sum.inr "more", h, by decide⟩
            · exact ⟨Sum.inr "zz", h, by decide⟩
            · exact ⟨Sum.inr "a", h, by decide⟩
            · exact ⟨Sum.inl 7, h, by decide⟩
          have m112 := m11.trans m12
          have hp10 := e10 _ _ hp9
          have hp12 := m112.fr p _ pS.1 pS.2 hp10
          have g12 : Ge (m + 1) (n + 10) (fun b => (Z b ∨ H b = none) ∧ b ≠ p) H12 es2 := ge_imp g9 (fun _ h => gv_mv m112 (fun z => nS z.1) (fun z => nc z.1) (gv_ex e10 h)) (Nat.le_refl _)
          have gy12 : Gv (m + 1) (n + 10) (fun b => (Z b ∨ H b = none) ∧ b ≠ p) H12 y := by
            refine gv_mv m12 (fun z => nS z.1) (fun z => nc z.1) (gv_up (by omega) (by omega) (fun b hb => ⟨.inr (m10.back hb), fun z => ?_⟩) gy)
            rw [z, hp10] at hb; cases hb
          obtain ⟨g13, l13⟩ := put hp12 g12 (key := key) (by omega) gy12
          refine ⟨p, _, rfl, .inl ⟨es2, key, hp12, rfl, Evl.sz_lt (by omega), rfl⟩, ?_⟩
          exact Evl.s_ret (Evl.ev_var rfl) fun H14 e14 => fin ((m10.trans m112).mut pH) upd_same g13 (by omega) H14 e14
        · exact Evl.s_ret (Evl.ev_var rfl) fun H11 e11 => fin m9 hp9 g9 (by omega) H11 (e10.trans e11)
    | lst l =>
      obtain ⟨a, xs, rfl, Za, ha, hl, pr⟩ := hg
      have aS : a ≠ S := fun e => nZS (e ▸ Za)
      have ac : a ≠ c := fun e => nZc (e ▸ Za)
      have hak : ∀ {H1 : Hp}, Mv S c H H1 → H1 a = some (.lst xs) := fun mv => mv.fr a _ aS ac ha
      have lx := pair_len pr
      have hx : ∀ {H1 : Hp}, Mv S c H H1 → ∀ x ∈ xs, Gv (m + 1) (n + 1) (fun b => Z b ∨ H b = none) H1 x := fun mv x hm => by
        obtain ⟨d, _, r⟩ := pair_memB pr x hm
        exact gv_up (by omega) (by omega) (fun b hb => .inl hb) (gv_mv mv nZS nZc ⟨d, r⟩)
      refine Evl.q_when (b := false) (Evl.et_B (ev_isC (Evl.ev_var rfl) hg3 ki_lst_int)) (fun h => nomatch h) fun _ H4 e4 => ?_
      refine Evl.q_when (b := false) (Evl.et_B (ev_isC (Evl.ev_var rfl) (rp_ex e4 hg3) ki_lst_str)) (fun h => nomatch h) fun _ H5 e5 => ?_
      refine Evl.q_when (b := false) (Evl.et_B (ev_isC (Evl.ev_var rfl) (rp_ex (e4.trans e5) hg3) ki_lst_dict)) (fun h => nomatch h) fun _ H6 e6 => ?_
      have e36 := e4.trans (e5.trans e6)
      have m6 := m3.tx e36
      refine Evl.q_when (b := decide (V.int (xs.length : Int) = V.int 0) || decide (V.int wy = V.int 2)) (Evl.et_or (Evl.et_test (Evl.ev_op (ev_lenL (Evl.ev_var rfl) (.inl (Evl.sq_of (hak m6)))) Evl.ev_c (Evl.rv_eq rfl))) fun _ => Evl.et_test (Evl.ev_op (Evl.ev_var rfl) Evl.ev_c (Evl.rv_eq rfl))) (fun hb2 H7 e7 => ?_) fun hb2 H7 e7 => ?_
      · refine Evl.q_when (b := false) (Evl.et_B (ev_isC (Evl.ev_var rfl) (rp_ex (e36.trans e7) hg3) ki_lst_tuple)) (fun h => nomatch h) fun _ H8 e8 => ?_
        have m8 := m6.tx (e7.trans e8)
        exact s_retM (t_pickT (m := m + 1) (n := n + 2) (Z := fun b => Z b ∨ H b = none) (k := 3) (ap_cons (ep_tupOf (Evl.ev_var rfl) (hak m8) (hx m8) (by omega)) (ap_cons (ep_catL (Evl.ev_var rfl) (hak m8) (hx m8) (ap_cons (ep_ev Evl.ev_c gv_int) ap_nil) (by omega) (by omega) (zz m8)) (ap_cons (ep_catL (Evl.ev_var rfl) (hak m8) (hx m8) (ap_cons (ep_tup ap_nil (by omega) (by omega)) ap_nil) (by omega) (by omega) (zz m8)) ap_nil))) (by decide) (by decide) (Evl.ev_var rfl) Evl.ev_c m8.z nS nc fun H9 v9 m9 g9 => k H9 v9 (m8.trans m9) (gv_up (by omega) (Nat.le_refl _) (fun _ z => z) g9))
      · have m7 := m6.tx e7
        have x0 : 0 < xs.length := by
          cases c0 : xs.length with
          | zero => rw [c0] at hb2; simp at hb2
          | succ t => omega
        refine q_asgM ⟨_, rfl, el_list (Evl.ev_var rfl) (.inl (Evl.sq_of (hak m7))) _ (Ex.refl _) _ fun q H8 hq e8 hq8 => ?_⟩
        have m8 := m7.tx e8
        have qS := m7.z.someS hq
        refine ⟨S, c, q, xs, rfl, m8.z, hq8, qS.1, qS.2, x0, by omega, fun H9 p ys m9 hp9 hp l9 sub => ?_⟩
        have m09 := m8.trans m9
        refine Evl.q_when (b := false) (Evl.et_B (ev_isC (Evl.ev_var rfl) (rp_mv ((Mv.ex m3.z (e36.trans (e7.trans e8))).trans m9) nZS nZc hg3) ki_lst_tuple)) (fun h => nomatch h) fun _ H10 e10 => ?_
        exact Evl.s_ret (Evl.ev_var rfl) fun H11 e11 => k H11 _ (m09.tx (e10.trans e11)) (gv_up (by omega) (Nat.le_refl _) (fun _ z => z) (gv_lst ((e10.trans e11) _ _ hp) (.inr (m8.back hp9)) (by omega) fun y hy => hx (m09.tx (e10.trans e11)) y (sub y hy)))
    | tup l =>
      obtain ⟨a, xs, rfl, ha, hl, pr⟩ := hg
      have hak : ∀ {H1 : Hp}, Mv S c H H1 → H1 a = some (.tup xs) := fun mv => mv.tup ha
      have lx := pair_len pr
      have hx : ∀ {H1 : Hp}, Mv S c H H1 → ∀ x ∈ xs, Gv (m + 1) (n + 1) (fun b => Z b ∨ H b = none) H1 x := fun mv x hm => by
        obtain ⟨d, _, r⟩ := pair_memB pr x hm
        exact gv_up (by omega) (by omega) (fun b hb => .inl hb) (gv_mv mv nZS nZc ⟨d, r⟩)
      refine Evl.q_when (b := false) (Evl.et_B (ev_isC (Evl.ev_var rfl) hg3 ki_tup_int)) (fun h => nomatch h) fun _ H4 e4 => ?_
      refine Evl.q_when (b := false) (Evl.et_B (ev_isC (Evl.ev_var rfl) (rp_ex e4 hg3) ki_tup_str)) (fun h => nomatch h) fun _ H5 e5 => ?_
      refine Evl.q_when (b := false) (Evl.et_B (ev_isC (Evl.ev_var rfl) (rp_ex (e4.trans e5) hg3) ki_tup_dict)) (fun h => nomatch h) fun _ H6 e6 => ?_
      have e36 := e4.trans (e5.trans e6)
      have m6 := m3.tx e36
      refine Evl.q_when (b := decide (V.int (xs.length : Int) = V.int 0) || decide (V.int wy = V.int 2)) (Evl.et_or (Evl.et_test (Evl.ev_op (ev_lenL (Evl.ev_var rfl) (.inr (Evl.st_of (hak m6)))) Evl.ev_c (Evl.rv_eq rfl))) fun _ => Evl.et_test (Evl.ev_op (Evl.ev_var rfl) Evl.ev_c (Evl.rv_eq rfl))) (fun hb2 H7 e7 => ?_) fun hb2 H7 e7 => ?_
      · refine Evl.q_when (b := true) (Evl.et_B (ev_isC (Evl.ev_var rfl) (rp_ex (e36.trans e7) hg3) ki_tup_tuple)) (fun _ H8 e8 => ?_) fun h => nomatch h
        have m8 := m6.tx (e7.trans e8)
        exact s_retM (t_pickT (m := m + 1) (n := n + 2) (Z := fun b => Z b ∨ H b = none) (k := 3) (ap_cons (ep_ofL (el_list (Evl.ev_var rfl) (.inr (Evl.st_of (hak m8)))) (by omega) (zz m8) (hx m8)) (ap_cons (ep_catU (Evl.ev_var rfl) (hak m8) (hx m8) (ap_cons (ep_ev Evl.ev_c gv_int) ap_nil) (by decide) (by omega) (by omega)) (ap_cons (ep_catU (Evl.ev_var rfl) (hak m8) (hx m8) (ap_cons (ep_tup ap_nil (by omega) (by omega)) ap_nil) (by decide) (by omega) (by omega)) ap_nil))) (by decide) (by decide) (Evl.ev_var rfl) Evl.ev_c m8.z nS nc fun H9 v9 m9 g9 => k H9 v9 (m8.trans m9) (gv_up (by omega) (Nat.le_refl _) (fun _ z => z) g9))
      · have m7 := m6.tx e7
        have x0 : 0 < xs.length := by
          cases c0 : xs.length with
          | zero => rw [c0] at hb2; simp at hb2
          | succ t => omega
        refine q_asgM ⟨_, rfl, el_list (Evl.ev_var rfl) (.inr (Evl.st_of (hak m7))) _ (Ex.refl _) _ fun q H8 hq e8 hq8 => ?_⟩
        have m8 := m7.tx e8
        have qS := m7.z.someS hq
        refine ⟨S, c, q, xs, rfl, m8.z, hq8, qS.1, qS.2, x0, by omega, fun H9 p ys m9 hp9 hp l9 sub => ?_⟩
        have m09 := m8.trans m9
        refine Evl.q_when (b := true) (Evl.et_B (ev_isC (Evl.ev_var rfl) (rp_mv ((Mv.ex m3.z (e36.trans (e7.trans e8))).trans m9) nZS nZc hg3) ki_tup_tuple)) (fun _ H10 e10 => ?_) fun h => nomatch h
        refine s_retM ?_
        exact (ep_tupOf (m := m + 1) (n := n + 1) (Z := fun b => Z b ∨ H b = none) (Evl.ev_var rfl) (e10 _ _ hp) (fun y hy => hx (m09.tx e10) y (sub y hy)) (by omega) _ (Ex.refl _) _ fun v11 H11 e11 g11 => k H11 v11 (m09.tx (e10.trans e11)) (gv_up (by omega) (Nat.le_refl _) (fun _ z => z) g11))
end
end Pk

namespace Pk
open PySem PySem.Spec PyProof.Rows L2 Ssb
open Evl (Ex Ev EvT EvL EvA EvU)
/-- len of a list, a tuple or a dict -/
def rLenM (K : PySem.W.Frag) : List V → Hp → VK → Prop := fun xs H Q => rLenA K xs H Q ∨ ∃ (a : Addr) (kvs : List (Key × V)), xs = [V.ref a] ∧ H a = some (.dK kvs) ∧ Q (.int kvs.length) H
theorem callLenM {X : Cx} : CallR X (.builtin "len") (rLenM X.K) := CallR.or call_len call_lenD
section
variable {K : PySem.W.Frag} {σ : L2.St} {H : Hp} {S c a : Addr} {m n : Nat} {Z : Addr → Prop} {tS tn te tv tl : TE} {ta : TA} {D : Ends} {tz tu : TS} {xs ys : List V} {v : V} {es : List (Key × V)} {tA tB2 : TT}
theorem ev_lenM1 (h : Ev te σ H (.ref a)) (hx : SqL K H a xs ∨ SqT K H a xs) : Ev (tCB (rLenM K) (tCons te tNil)) σ H (.int (xs.length : Int)) := fun H1 e Q q =>
  h H1 e _ fun H2 e2 => .inl ⟨.ref a, xs.length, rfl, (show (∃ ys, SqL K H2 a ys ∧ xs.length = ys.length) ∨ ∃ ys, SqT K H2 a ys ∧ xs.length = ys.length from (ex_q (e.trans e2) hx).imp (fun z => ⟨xs, z, rfl⟩) fun z => ⟨xs, z, rfl⟩), q H2 e2⟩
theorem ev_lenM2 (h : Ev te σ H (.ref a)) (hx : H a = some (.dK es)) : Ev (tCB (rLenM K) (tCons te tNil)) σ H (.int (es.length : Int)) := fun H1 e Q q =>
  h H1 e _ fun H2 e2 => .inr ⟨a, es, rfl, (e.trans e2) _ _ hx, q H2 e2⟩
theorem ev_isi3 {n1 n2 n3 : String} {x : V} {ty : Value} {b : Bool} (h : Ev te σ H x) (hty : ∀ H1, Ex H H1 → TyX K H1 x ty) (hk : PySem.W.kitAny K ty [.type n1, .type n2, .type n3] = some b) :
    Ev (tCB (rIsiT K) (tCons te (tCons (tTup (tCons (tC (.ty n1)) (tCons (tC (.ty n2)) (tCons (tC (.ty n3)) tNil)))) tNil))) σ H (.bl b) := fun H1 e Q q =>
  h H1 e _ fun H2 e2 => ⟨(by show 3 ≤ sizeLine; decide), fun p hp => ⟨x, p, [.ty n1, .ty n2, .ty n3], ty, [.type n1, .type n2, .type n3], b, rfl, upd_same, .cons (.ty n1) (.cons (.ty n2) (.cons (.ty n3) .nil)), hty _ ((e.trans e2).trans (Ex.new hp)), hk, q _ (e2.trans (Ex.new hp))⟩⟩
theorem kit_three (g : G) : PySem.W.kitAny K (.type (gT g)) [.type "list", .type "tuple", .type "dict"] = some (isLstG g || (isTupG g || (dicG g).isSome)) := by
  have h1 := kit_some g (T := "list") (by decide)
  have h2 := kit_some g (T := "tuple") (by decide)
  have h3 := kit_some g (T := "dict") (by decide)
  rw [isK_lst] at h1
  rw [isK_tup] at h2
  rw [isK_dic] at h3
  cases g with
  | lst l => exact kitAny_cons (b := true) (kit_ty h1) (fun h => nomatch h) fun _ => rfl
  | tup l => exact kitAny_cons (b := false) (kit_ty h1) (fun _ => kitAny_cons (b := true) (kit_ty h2) (fun h => nomatch h) fun _ => rfl) fun h => nomatch h
  | dic l => exact kitAny_cons (b := false) (kit_ty h1) (fun _ => kitAny_cons (b := false) (kit_ty h2) (fun _ => kitAny_cons (b := true) (kit_ty h3) (fun h => nomatch h) fun _ => rfl) fun h => nomatch h) fun h => nomatch h
  | non => exact kitAny_cons (b := false) (kit_ty h1) (fun _ => kitAny_cons (b := false) (kit_ty h2) (fun _ => kitAny_cons (b := false) (kit_ty h3) (fun _ => rfl) fun h => nomatch h) fun h => nomatch h) fun h => nomatch h
  | bl b => exact kitAny_cons (b := false) (kit_ty h1) (fun _ => kitAny_cons (b := false) (kit_ty h2) (fun _ => kitAny_cons (b := false) (kit_ty h3) (fun _ => rfl) fun h => nomatch h) fun h => nomatch h) fun h => nomatch h
  | int i => exact kitAny_cons (b := false) (kit_ty h1) (fun _ => kitAny_cons (b := false) (kit_ty h2) (fun _ => kitAny_cons (b := false) (kit_ty h3) (fun _ => rfl) fun h => nomatch h) fun h => nomatch h) fun h => nomatch h
  | str x => exact kitAny_cons (b := false) (kit_ty h1) (fun _ => kitAny_cons (b := false) (kit_ty h2) (fun _ => kitAny_cons (b := false) (kit_ty h3) (fun _ => rfl) fun h => nomatch h) fun h => nomatch h) fun h => nomatch h
theorem q_orDraw {b : Bool} {k : Int} (hA : EvT tA σ H false) (hB : EvT tB2 σ H b) (hS : Ev tS σ H (.ref S)) (hn : Ev tn σ H (.int k)) (st : StAt H S c) (k0 : 1 ≤ k) (k1 : k < 1073741824)
    (h1 : ∀ H1, Mv S c H H1 → tu { D with nx := tz D } σ H1) (h2 : b = false → ∀ H1, Mv S c H H1 → tz D σ H1) :
    tSeq (tIfS (tOr tA (tOr tB2 (tTest (tOp rEq (tCall spDraw [] E0 (tCons tS (tCons tn tNil))) (tC (.int 0)))))) tu tNext) tz D σ H :=
  hA H (Ex.refl _) _ fun H1 e1 => iteF (hB H1 e1 _ fun H2 e2 => by
    have st2 := st.ex (e1.trans e2)
    have m2 := Mv.ex st (e1.trans e2)
    cases b with
    | true => exact iteT (iteT (h1 H2 m2))
    | false =>
      refine iteF (tdraw (fun H3 e3 => hS H3 ((e1.trans e2).trans e3)) (fun H3 e3 => hn H3 ((e1.trans e2).trans e3)) st2 k0 k1 fun H3 r m3 _ _ => ⟨rfl, _, rfl, ?_⟩)
      cases decide (V.int r = V.int 0) with
      | true => exact iteT (h1 H3 (m2.trans m3))
      | false => exact iteF (h2 rfl H3 (m2.trans m3)))
end
end Pk

namespace Pk
open PySem PySem.Spec PyProof.Rows L2 Ssb
open Evl (Ex Ev EvT EvL EvA EvU)
section
variable {P : Program} {w : World} {K : PySem.W.Frag} {mg : Str → Option Value} {base : Heap} {C_Shape C_InvalidData C_InvalidShape C_StayError : Addr}
theorem q_asgS {te : TE} {g : TG} {tz : TS} {D : Ends} {σ : L2.St} {H : Hp} (h : te σ H fun v H1 => g v σ H1 fun σ' H' => tz D σ' H') : tSeq (tAsg te g) tz D σ H := h
theorem tchanged {σ : L2.St} {H : Hp} {S c : Addr} {v : V} {m n : Nat} {Z : Addr → Prop} {tS tv : TE} {Q : VK} (hS : Ev tS σ H (.ref S)) (hv : Ev tv σ H v) (st : StAt H S c) (g : Gv m n Z H v) (z1 : ¬ Z S) (z2 : ¬ Z c) (m1 : 4 ≤ m) (m2 : m ≤ 7)
    (q : ∀ H' v', Mv S c H H' → Gv (m + 1) (n + 11) (fun b => Z b ∨ H b = none) H' v' → Q v' H') : tCall spChanged [] E0 (tCons tS (tCons tv tNil)) σ H Q :=
  hS H (Ex.refl _) _ fun H1 e1 => hv H1 e1 _ fun H2 e2 => ⟨S, c, v, m, n, Z, rfl, st.ex (e1.trans e2), gv_ex (e1.trans e2) g, z1, z2, m1, m2, fun H' v' mv g' => q H' v' ((Mv.ex st (e1.trans e2)).trans mv) (gv_up (Nat.le_refl _) (Nat.le_refl _) (fun b hb => hb.imp id fun z => Evl.fresh_back (e1.trans e2) z) g')⟩
def spSpoil (n : Nat) : Sp := fun vs H Q _ => ∃ (S c : Addr) (v : V) (m : Nat) (Z : Addr → Prop), vs = [.ref S, v] ∧ StAt H S c ∧ Gv m n Z H v ∧ ¬ Z S ∧ ¬ Z c ∧ 4 ≤ m ∧ m ≤ 7 ∧
  ∀ H' v', Mv S c H H' → Gv (m + 1) (n + 11) (fun b => Z b ∨ H b = none) H' v' → Q v' H'
theorem tspoil {n : Nat} {σ : L2.St} {H : Hp} {S c : Addr} {v : V} {m : Nat} {Z : Addr → Prop} {tS tv : TE} {Q : VK} (hS : Ev tS σ H (.ref S)) (hv : Ev tv σ H v) (st : StAt H S c) (g : Gv m n Z H v) (z1 : ¬ Z S) (z2 : ¬ Z c) (m1 : 4 ≤ m) (m2 : m ≤ 7)
    (q : ∀ H' v', Mv S c H H' → Gv (m + 1) (n + 11) (fun b => Z b ∨ H b = none) H' v' → Q v' H') : tCall (spSpoil n) [] E0 (tCons tS (tCons tv tNil)) σ H Q :=
  hS H (Ex.refl _) _ fun H1 e1 => hv H1 e1 _ fun H2 e2 => ⟨S, c, v, m, Z, rfl, st.ex (e1.trans e2), gv_ex (e1.trans e2) g, z1, z2, m1, m2, fun H' v' mv g' => q H' v' ((Mv.ex st (e1.trans e2)).trans mv) (gv_up (Nat.le_refl _) (Nat.le_refl _) (fun b hb => hb.imp id fun z => Evl.fresh_back (e1.trans e2) z) g')⟩
theorem ok__law_spoilA (T : Txt K mg C_Shape C_InvalidData C_InvalidShape C_StayError) (R : Prg K mg C_Shape C_InvalidData C_InvalidShape C_StayError) {f : Addr} {fd : FuncData} (at_ : mg "_law_spoil" = some (.ref f)) (F : Fun K "_law_spoil" "_law_spoil" s__law_spoil f fd) (kp : PySem.W.keepIn K (.ref f) = true) : ∀ n, Fn P w K mg base "_law_spoil" (n + 6) ["_law_stream_here", "_law_value"] (spSpoil n) f fd
  | 0 => by
    refine ⟨F.ok sc__law_spoil (fun vs H Q E h => ?_) (fun cdv A outer s H vs Q E hr h => ?_), at_, kp, F.binds (fun _ _ _ _ _ _ us hl => match us, hl with | [_, _], _ => rfl)⟩
    · obtain ⟨S, c, v, m, Z, rfl, _⟩ := h; rfl
    · obtain ⟨S, c, v, m, Z, rfl, _, ⟨g, h⟩, _⟩ := h; exact h.elim
  | n + 1 => by
    obtain ⟨_, _, G__law_draw⟩ := ok__law_draw (P := P) (w := w) (base := base) T R
    obtain ⟨_, _, G__law_changed⟩ := ok__law_changed (P := P) (w := w) (base := base) T R
    have G__law_spoil := ok__law_spoilA T R at_ F kp n
    refine ⟨F.ok sc__law_spoil (fun vs H Q E h => ?_) (fun cdv A outer s H vs Q E hr h => ?_), at_, kp, F.binds (fun _ _ _ _ _ _ us hl => match us, hl with | [_, _], _ => rfl)⟩
    · obtain ⟨S, c, v, m, Z, rfl, _⟩ := h; rfl
    · obtain ⟨S, c, v, m, Z, rfl, st, gv, nZS, nZc, m16, mz, k⟩ := h
      refine ⟨_, (pss_cons (ps_if (PW.pt (pw_or (pt_not (pt_val (pe_callB (r := rIsiT K) call_isiT (by rfl) T.isinstance (by decide +kernel) (pa_cons (pv 1) (pa_cons (pe_tup (pa_cons (pe_bltn (v := .ty "list") (by rfl) T.list boot_list rfl) (pa_cons (pe_bltn (v := .ty "tuple") (by rfl) T.tuple boot_tuple rfl) (pa_cons (pe_bltn (v := .ty "dict") (by rfl) T.dict boot_dict rfl) pa_nil)))) pa_nil))))) (pw_or (pt_cmpR op_eq (pe_callB (r := rLenM K) callLenM (by rfl) T.len (by decide +kernel) (pa_cons (pv 1) pa_nil)) pe_int (nomark _)) (pw_or1 (pt_cmpR op_eq (pcl G__law_draw hr (pa_cons (pv 0) (pa_cons pe_int pa_nil))) pe_int (nomark _)))))) (pss_one (ps_ret (pcl G__law_changed hr (pa_cons (pv 0) (pa_cons (pv 1) pa_nil))))) pss_nil)
  (pss_cons (ps_set (i := 2) sc__law_spoil.nd rfl (Or.inl rfl) (pcl G__law_draw hr (pa_cons (pv 0) (pa_cons (pe_callB (r := rLenM K) callLenM (by rfl) T.len (by decide +kernel) (pa_cons (pv 1) pa_nil)) pa_nil))))
  (pss_cons (ps_if (pt_val (pe_callB (r := rIsi K) call_isi (by rfl) T.isinstance (by decide +kernel) (pa_cons (pv 1) (pa_cons (pe_bltn (v := .ty "dict") (by rfl) T.dict boot_dict rfl) pa_nil)))) (pss_cons (ps_set (i := 3) sc__law_spoil.nd rfl (Or.inl rfl) pe_dnewK)
  (pss_cons (ps_for PassesOwn.never rfl (pi_enum (by rfl) T.enumerate (pa_cons (pe_callTy (call_listD rfl) (by rfl) T.list (by decide +kernel) (pa_cons (pv 1) pa_nil)) pa_nil)) (show PG _ _ (gTup K 2 _) from pg_tup (n := 2) rfl (pgs_cons (pg_name (i := 4) sc__law_spoil.nd rfl (Or.inl rfl)) (pgs_cons (pg_name (i := 5) sc__law_spoil.nd rfl (Or.inl rfl)) pgs_nil)))
    (pss_cons (ps_dput (hu_of hr) (pv 3) (pv 5) (pe_dget (hu_of hr) (pv 1) (pv 5) (fun _ _ => rfl)) rfl)
  (pss_one (ps_if (pt_cmpR op_eq (pv 4) (pv 2) (nomark _)) (pss_one (ps_dput (hu_of hr) (pv 3) (pv 5) (pcl G__law_spoil hr (pa_cons (pv 0) (pa_cons (pe_dget (hu_of hr) (pv 1) (pv 5) (fun _ _ => rfl)) pa_nil))) rfl)) pss_nil))))
  (pss_one (ps_ret (pv 3))))) pss_nil)
  (pss_cons (ps_set (i := 6) sc__law_spoil.nd rfl (Or.inl rfl) (pe_callTy (r := rListA K) call_list_of (by rfl) T.list (by decide +kernel) (pa_cons (pv 1) pa_nil)))
  (pss_cons (ps_asg (pcl G__law_spoil hr (pa_cons (pv 0) (pa_cons (pe_ix (r := rIxL K) ix_list (pv 6) (pv 2) (fun _ _ => rfl)) pa_nil))) (pg_sub (pv 6) (pv 2) set_list))
  (pss_cons (ps_if (pt_val (pe_callB (r := rIsi K) call_isi (by rfl) T.isinstance (by decide +kernel) (pa_cons (pv 1) (pa_cons (pe_bltn (v := .ty "tuple") (by rfl) T.tuple boot_tuple rfl) pa_nil)))) (pss_one (ps_ret (pe_callTy (r := rTupA K) call_tuple_of (by rfl) T.tuple (by decide +kernel) (pa_cons (pv 6) pa_nil)))) pss_nil)
  (pss_one (ps_ret (pv 6))))))))), ?_⟩
      have nS : ¬ (Z S ∨ H S = none) := fun z => z.elim nZS fun z => (st.someS z).1 rfl
      have nc : ¬ (Z c ∨ H c = none) := fun z => z.elim nZc fun z => (st.someS z).2 rfl
      have chg : ∀ {H1 : Hp} {σ : L2.St} {D : Ends}, Mv S c H H1 → σ[0]? = some (some (V.ref S)) → σ[1]? = some (some v) → (∀ H' v', Mv S c H H' → Gv (m + 1) (n + 1 + 11) (fun b => Z b ∨ H b = none) H' v' → D.rt v' H') → tRet (tCall spChanged [] E0 (tCons (tVar 0) (tCons (tVar 1) tNil))) D σ H1 := fun mv h0 h1 q =>
        s_retM (tchanged (Evl.ev_var h0) (Evl.ev_var h1) mv.z (gv_mv mv nZS nZc gv) nZS nZc m16 mz fun H' v' m2 g => q H' v' (mv.trans m2) (gv_up (Nat.le_refl _) (Nat.le_refl _) (fun b hb => hb.imp id fun z => mv.back z) g))
      obtain ⟨g, hg⟩ := id gv
      have is3 : ∀ {b : Bool}, (isLstG g || (isTupG g || (dicG g).isSome)) = b → EvT (tNot (tB (tCB (rIsiT K) (tCons (tVar 1) (tCons (tTup (tCons (tC (.ty "list")) (tCons (tC (.ty "tuple")) (tCons (tC (.ty "dict")) tNil)))) tNil))))) [some (.ref S), some v, none, none, none, none, none] H (!b) := fun {b} e =>
        Evl.et_not (Evl.et_B (ev_isi3 (Evl.ev_var rfl) (fun H1 e1 => .base (rp_ty (rp_ex e1 hg))) (e ▸ kit_three g)))
      have leaf : (isLstG g || (isTupG g || (dicG g).isSome)) = false → ∀ {tt : TT} {tz : TS} {D : Ends}, (∀ H' v', Mv S c H H' → Gv (m + 1) (n + 1 + 11) (fun b => Z b ∨ H b = none) H' v' → ({ D with nx := tz D } : Ends).rt v' H') →
          tSeq (tIfS (tOr (tNot (tB (tCB (rIsiT K) (tCons (tVar 1) (tCons (tTup (tCons (tC (.ty "list")) (tCons (tC (.ty "tuple")) (tCons (tC (.ty "dict")) tNil)))) tNil))))) tt) (tRet (tCall spChanged [] E0 (tCons (tVar 0) (tCons (tVar 1) tNil)))) tNext) tz D [some (.ref S), some v, none, none, none, none, none] H := fun e tt tz D q =>
        Evl.q_when (b := true) (Evl.et_or (a := true) (b := false) (is3 e) fun h => nomatch h) (fun _ H1 e1 => chg (.ex st e1) rfl rfl q) fun h => nomatch h
      cases g with
      | non => exact leaf rfl k
      | bl b => exact leaf rfl k
      | int i => exact leaf rfl k
      | str x => exact leaf rfl k
      | dic l =>
        obtain ⟨n', a, es, en, rfl, Za, ha, hl, le, okk, ekk, pr⟩ := rp_dic hg
        obtain rfl : n = n' := by omega
        have aS : a ≠ S := fun e => nZS (e ▸ Za)
        have ac : a ≠ c := fun e => nZc (e ▸ Za)
        have hak : ∀ {H1 : Hp}, Mv S c H H1 → H1 a = some (.dK es) := fun mv => mv.fr a _ aS ac ha
        have ge : Ge m n Z H es := rp_entries okk pr
        refine q_orDraw (b := decide (V.int (es.length : Int) = V.int 0)) (k := 6) (is3 rfl) (Evl.et_test (Evl.ev_op (ev_lenM2 (Evl.ev_var rfl) ha) Evl.ev_c (Evl.rv_eq rfl))) (Evl.ev_var rfl) Evl.ev_c st (by decide) (by decide) (fun H1 m1 => chg m1 rfl rfl k) fun hb H1 m1 => ?_
        have x0 : 0 < es.length := by
          cases c0 : es.length with
          | zero => rw [c0] at hb; simp at hb
          | succ t => omega
        refine q_asgM (tdraw (k := (es.length : Int)) (Evl.ev_var rfl) (ev_lenM2 (Evl.ev_var rfl) (hak m1)) m1.z (by omega) (by omega) fun H2 r m2 r0 r1 => ?_)
        have m02 := m1.trans m2
        refine Evl.q_when (b := true) (Evl.et_B (ev_isC (Evl.ev_var rfl) (rp_mv m02 nZS nZc hg) ki_dic_dict)) (fun _ H6 e6 => ?_) fun h => nomatch h
        have m6 := m02.tx e6
        refine q_asgM fun p hp => ?_
        have pH : H p = none := m6.back hp
        have pS := m6.z.someS hp
        have m7 := m6.tx (Ex.new (o := .dK []) hp)
        have p7 : (upd H6 p (.dK [])) p = some (.dK []) := upd_same
        generalize upd H6 p (.dK []) = H7 at m7 p7 ⊢
        have put : ∀ {Hx : Hp} {es2 : List (Key × V)} {key : Key} {x : V}, Hx p = some (.dK es2) → Ge (m + 1) (n + 11) (fun b => (Z b ∨ H b = none) ∧ b ≠ p) Hx es2 → kLen key ≤ sB (m + 1) → Gv (m + 1) (n + 11) (fun b => (Z b ∨ H b = none) ∧ b ≠ p) Hx x →
            Ge (m + 1) (n + 11) (fun b => (Z b ∨ H b = none) ∧ b ≠ p) (upd Hx p (.dK (putK es2 key x))) (putK es2 key x) := fun hx g2 hk gx => ge_imp (ge_put g2 hk gx).1 (fun _ h => gv_upd hx (fun _ z => nomatch z) (fun b z => z.2) h) (Nat.le_refl _)
        have pkeys : ∀ {es2 : List (Key × V)} {key : Key} {x : V}, (∀ e ∈ es2, e.1 ∈ es.map fun e : Key × V => e.1) → key ∈ (es.map fun e : Key × V => e.1) → ∀ e ∈ putK es2 key x, e.1 ∈ es.map fun e : Key × V => e.1 := fun {es2 key x} h hk e he => by
          unfold putK at he
          split at he
          · obtain ⟨e0, h0, rfl⟩ := List.mem_map.mp he
            split
            · exact h e0 h0
            · exact h e0 h0
          · rcases List.mem_append.mp he with he | he
            · exact h e he
            · rw [List.mem_singleton.mp he]; exact hk
        have few : ∀ {es2 : List (Key × V)}, (es2.map fun e : Key × V => e.1).Nodup → (∀ e ∈ es2, e.1 ∈ es.map fun e : Key × V => e.1) → es2.length ≤ es.length := fun {es2} nd h => by
          have := nd.length_le_of_subset (l₂ := es.map fun e : Key × V => e.1) fun x hx => by
            obtain ⟨e, he, rfl⟩ := List.mem_map.mp hx
            exact h e he
          simpa using this
        refine q_enumD (a := a) (es := es) (Evl.ev_var rfl) (hak m7) (fun lp i σ' H' => ∃ (o5 o6 : Option V) (es2 : List (Key × V)), σ' = [some (.ref S), some (.ref a), some (.int r), some (.ref p), o5, o6, none] ∧ Mv S c H H' ∧ H' lp = some (.lst (es.map fun kv => kV kv.1)) ∧ lp ≠ p ∧ lp ≠ S ∧ lp ≠ c ∧ H' p = some (.dK es2) ∧ Ge (m + 1) (n + 11) (fun b => (Z b ∨ H b = none) ∧ b ≠ p) H' es2 ∧ ∀ e ∈ es2, e.1 ∈ es.map fun e : Key × V => e.1)
          (fun lp H9 e9 hlp hl9 => ⟨_, _, [], rfl, m7.tx e9, hl9, (fun z => by rw [z, p7] at hlp; cases hlp), (m7.z.someS hlp).1, (m7.z.someS hlp).2, e9 _ _ p7, ⟨List.nodup_nil, fun e he => nomatch he⟩, fun e he => nomatch he⟩) (fun lp i σ' H' ⟨_, _, _, _, _, h, _⟩ => h) (fun lp i σ' H' kv hkv pv H9 e9 => ?_) fun lp σ' H' pv => ?_
        · obtain ⟨o5, o6, es2, rfl, m9, hlp, nlp, lS, lc, hp9, g9, l9⟩ := pv
          obtain ⟨key, x⟩ := kv
          have kvm := List.mem_of_getElem? hkv
          have km : key ∈ es.map fun e : Key × V => e.1 := List.mem_map.mpr ⟨_, kvm, rfl⟩
          have kl : kLen key ≤ sB (m + 1) := Nat.le_trans (ge.2 _ kvm).1 (sB_mono (by omega))
          have hv : valV es key = some x := valV_atK ge.1 hkv
          have m10 := m9.tx e9
          have hp10 := e9 _ _ hp9
          have gn := gv_ne pH (ge.2 _ kvm).2
          have gx : Gv (m + 1) (n + 11) (fun b => (Z b ∨ H b = none) ∧ b ≠ p) H9 x := gv_up (by omega) (by omega) (fun b hb => ⟨.inl hb.1, hb.2⟩) (gv_mv (Z := fun b => Z b ∧ b ≠ p) m10 (fun z => nZS z.1) (fun z => nZc z.1) gn)
          have g11 := put hp10 (ge_imp g9 (fun _ h => gv_ex e9 h) (Nat.le_refl _)) kl gx
          have l11 : ∀ e ∈ putK es2 key x, e.1 ∈ es.map fun e : Key × V => e.1 := pkeys l9 km
          have f9 := few g9.1 l9
          refine ⟨_, rfl, _, rfl, a, x, rfl, .inl ⟨es, key, .inl (hak m10), rfl, hv.symm⟩, _, rfl, _, rfl, p, _, rfl, .inl ⟨es2, key, hp10, rfl, Evl.sz_lt (by omega), rfl⟩, ?_⟩
          have m11 : Mv S c H (upd H9 p (.dK (putK es2 key x))) := m10.mut pH
          have p11 : (upd H9 p (.dK (putK es2 key x))) p = some (.dK (putK es2 key x)) := upd_same
          have lp11 : (upd H9 p (.dK (putK es2 key x))) lp = some (.lst (es.map fun kv => kV kv.1)) := by rw [upd_ne nlp]; exact e9 _ _ hlp
          generalize upd H9 p (.dK (putK es2 key x)) = H11 at m11 p11 lp11 g11 ⊢
          generalize putK es2 key x = es3 at p11 g11 l11
          refine Evl.s_when (b := decide (V.int (i : Int) = V.int r)) (Evl.et_test (Evl.ev_op (Evl.ev_var rfl) (Evl.ev_var rfl) (Evl.rv_eq rfl))) (fun hb2 H12 e12 => ?_) fun hb2 H12 e12 => ?_
          · have m12 := m11.tx e12
            refine tspoil (Z := fun b => Z b ∧ b ≠ p) (Evl.ev_var rfl) (fun H2 e2 Q' q' => ⟨_, rfl, _, rfl, a, x, rfl, .inl ⟨es, key, .inl (hak (m12.tx e2)), rfl, hv.symm⟩, q' H2 (Ex.refl _)⟩) m12.z (gv_mv m12 (fun z => nZS z.1) (fun z => nZc z.1) gn) (fun z => nZS z.1) (fun z => nZc z.1) m16 mz fun H13 y m13 gy => ?_
            have p12 := e12 _ _ p11
            have p13 := m13.fr p _ pS.1 pS.2 p12
            have gy' : Gv (m + 1) (n + 11) (fun b => (Z b ∨ H b = none) ∧ b ≠ p) H13 y := gv_up (Nat.le_refl _) (Nat.le_refl _) (fun b hb => by
              rcases hb with hb | hb
              · exact ⟨.inl hb.1, hb.2⟩
              · refine ⟨.inr (m12.back hb), fun z => ?_⟩
                rw [z, p12] at hb; cases hb) gy
            have g13 : Ge (m + 1) (n + 11) (fun b => (Z b ∨ H b = none) ∧ b ≠ p) H13 es3 := ge_imp g11 (fun _ h => gv_mv m13 (fun z => nS z.1) (fun z => nc z.1) (gv_ex e12 h)) (Nat.le_refl _)
            have f13 := few g13.1 l11
            exact ⟨_, rfl, _, rfl, p, _, rfl, .inl ⟨es3, key, p13, rfl, Evl.sz_lt (by omega), rfl⟩, _, _, putK es3 key y, rfl, (m12.trans m13).mut pH, by rw [upd_ne nlp]; exact m13.fr lp _ lS lc (e12 _ _ lp11), nlp, lS, lc, upd_same, put p13 g13 kl gy', pkeys l11 km⟩
          · exact ⟨_, _, es3, rfl, m11.tx e12, e12 _ _ lp11, nlp, lS, lc, e12 _ _ p11, ge_imp g11 (fun _ h => gv_ex e12 h) (Nat.le_refl _), l11⟩
        · obtain ⟨o5, o6, es2, rfl, m9, hlp, nlp, lS, lc, hp9, g9, l9⟩ := pv
          have f9 := few g9.1 l9
          exact Evl.s_ret (Evl.ev_var rfl) fun H11 e11 => k H11 _ (m9.tx e11) (gv_up (by omega) (Nat.le_refl _) (fun _ z => z) (gv_dic (e11 _ _ hp9) (.inr pH) (by omega) (ge_imp g9 (fun _ h => gv_ex e11 h) (Nat.le_refl _))))
      | lst l =>
        obtain ⟨a, xs, rfl, Za, ha, hl, pr⟩ := hg
        have aS : a ≠ S := fun e => nZS (e ▸ Za)
        have ac : a ≠ c := fun e => nZc (e ▸ Za)
        have hak : ∀ {H1 : Hp}, Mv S c H H1 → H1 a = some (.lst xs) := fun mv => mv.fr a _ aS ac ha
        have lx := pair_len pr
        have hx : ∀ x ∈ xs, Gv m n Z H x := fun x hm => by
          obtain ⟨d, _, r⟩ := pair_memB pr x hm
          exact ⟨d, r⟩
        refine q_orDraw (b := decide (V.int (xs.length : Int) = V.int 0)) (k := 6) (is3 rfl) (Evl.et_test (Evl.ev_op (ev_lenM1 (Evl.ev_var rfl) (.inl (Evl.sq_of ha))) Evl.ev_c (Evl.rv_eq rfl))) (Evl.ev_var rfl) Evl.ev_c st (by decide) (by decide) (fun H1 m1 => chg m1 rfl rfl k) fun hb H1 m1 => ?_
        have x0 : 0 < xs.length := by
          cases c0 : xs.length with
          | zero => rw [c0] at hb; simp at hb
          | succ t => omega
        refine q_asgM (tdraw (k := (xs.length : Int)) (Evl.ev_var rfl) (ev_lenM1 (Evl.ev_var rfl) (.inl (Evl.sq_of (hak m1)))) m1.z (by omega) (by omega) fun H2 r m2 r0 r1 => ?_)
        obtain ⟨i, rfl⟩ := Int.eq_ofNat_of_zero_le r0
        have hi : i < xs.length := by omega
        obtain ⟨x, hxi⟩ : ∃ x, xs[i]? = some x := ⟨_, List.getElem?_eq_getElem hi⟩
        have m02 := m1.trans m2
        refine Evl.q_when (b := false) (Evl.et_B (ev_isC (Evl.ev_var rfl) (rp_mv m02 nZS nZc (show Rp H m (n + 1) Z (.lst l) (.ref a) from ⟨a, xs, rfl, Za, ha, hl, pr⟩)) ki_lst_dict)) (fun h => nomatch h) fun _ H6 e6 => ?_
        have m6 := m02.tx e6
        refine Evl.q_asgL (el_list (Evl.ev_var rfl) (.inl (Evl.sq_of (hak m6)))) fun q H8 hq e8 hq8 => ?_
        have m8 := m6.tx e8
        have qS := m6.z.someS hq
        have qH := m6.back hq
        have old : ∀ {Hx : Hp}, Mv S c H Hx → ∀ x ∈ xs, Gv (m + 1) (n + 11) (fun b => (Z b ∨ H b = none) ∧ b ≠ q) Hx x := fun mv x hm => gv_up (by omega) (by omega) (fun b hb => ⟨.inl hb.1, hb.2⟩) (gv_mv (Z := fun b => Z b ∧ b ≠ q) mv (fun z => nZS z.1) (fun z => nZc z.1) (gv_ne qH (hx x hm)))
        refine q_asgS (tspoil (Z := fun b => Z b ∧ b ≠ q) (Evl.ev_var rfl) (Evl.ev_op (Evl.ev_var rfl) (Evl.ev_var rfl) (Evl.rv_ixL (Evl.sq_of hq8) (atI_nat hxi))) m8.z (gv_mv m8 (fun z => nZS z.1) (fun z => nZc z.1) (gv_ne qH (hx x (List.mem_of_getElem? hxi)))) (fun z => nZS z.1) (fun z => nZc z.1) m16 mz fun H9 y m9 gy => ?_)
        have m09 := m8.trans m9
        have hq9 := m9.fr q _ qS.1 qS.2 hq8
        refine ⟨_, rfl, _, rfl, q, xs, (i : Int), i, rfl, rfl, hq9, Evl.ixN_nat hi, ?_⟩
        have m10 : Mv S c H (upd H9 q (.lst (xs.set i y))) := m09.mut qH
        have q10 : (upd H9 q (.lst (xs.set i y))) q = some (.lst (xs.set i y)) := upd_same
        have gy' : Gv (m + 1) (n + 11) (fun b => (Z b ∨ H b = none) ∧ b ≠ q) H9 y := gv_up (Nat.le_refl _) (Nat.le_refl _) (fun b hb => by
          rcases hb with hb | hb
          · exact ⟨.inl hb.1, hb.2⟩
          · refine ⟨.inr (m8.back hb), fun z => ?_⟩
            rw [z, hq8] at hb; cases hb) gy
        have all10 : ∀ z ∈ xs.set i y, Gv (m + 1) (n + 11) (fun b => Z b ∨ H b = none) (upd H9 q (.lst (xs.set i y))) z := fun z hz => by
          refine gv_up (Nat.le_refl _) (Nat.le_refl _) (fun b hb => hb.1) (gv_upd (Z := fun b => (Z b ∨ H b = none) ∧ b ≠ q) hq9 (fun _ z => nomatch z) (fun b z => z.2) ?_)
          rcases List.mem_or_eq_of_mem_set hz with hz | hz
          · exact old m09 z hz
          · rw [hz]; exact gy'
        have l10 : (xs.set i y).length = xs.length := List.length_set ..
        generalize upd H9 q (.lst (xs.set i y)) = H10 at m10 q10 all10 ⊢
        refine Evl.q_when (b := false) (Evl.et_B (ev_isC (Evl.ev_var rfl) (rp_mv m10 nZS nZc (show Rp H m (n + 1) Z (.lst l) (.ref a) from ⟨a, xs, rfl, Za, ha, hl, pr⟩)) ki_lst_tuple)) (fun h => nomatch h) fun _ H11 e11 => ?_
        exact Evl.s_ret (Evl.ev_var rfl) fun H12 e12 => k H12 _ (m10.tx (e11.trans e12)) (gv_up (by omega) (Nat.le_refl _) (fun _ z => z) (gv_lst ((e11.trans e12) _ _ q10) (.inr qH) (by omega) fun z hz => gv_ex (e11.trans e12) (all10 z hz)))
      | tup l =>
        obtain ⟨a, xs, rfl, ha, hl, pr⟩ := hg
        have hak : ∀ {H1 : Hp}, Mv S c H H1 → H1 a = some (.tup xs) := fun mv => mv.tup ha
        have lx := pair_len pr
        have hx : ∀ x ∈ xs, Gv m n Z H x := fun x hm => by
          obtain ⟨d, _, r⟩ := pair_memB pr x hm
          exact ⟨d, r⟩
        refine q_orDraw (b := decide (V.int (xs.length : Int) = V.int 0)) (k := 6) (is3 rfl) (Evl.et_test (Evl.ev_op (ev_lenM1 (Evl.ev_var rfl) (.inr (Evl.st_of ha))) Evl.ev_c (Evl.rv_eq rfl))) (Evl.ev_var rfl) Evl.ev_c st (by decide) (by decide) (fun H1 m1 => chg m1 rfl rfl k) fun hb H1 m1 => ?_
        have x0 : 0 < xs.length := by
          cases c0 : xs.length with
          | zero => rw [c0] at hb; simp at hb
          | succ t => omega
        refine q_asgM (tdraw (k := (xs.length : Int)) (Evl.ev_var rfl) (ev_lenM1 (Evl.ev_var rfl) (.inr (Evl.st_of (hak m1)))) m1.z (by omega) (by omega) fun H2 r m2 r0 r1 => ?_)
        obtain ⟨i, rfl⟩ := Int.eq_ofNat_of_zero_le r0
        have hi : i < xs.length := by omega
        obtain ⟨x, hxi⟩ : ∃ x, xs[i]? = some x := ⟨_, List.getElem?_eq_getElem hi⟩
        have m02 := m1.trans m2
        refine Evl.q_when (b := false) (Evl.et_B (ev_isC (Evl.ev_var rfl) (rp_mv m02 nZS nZc (show Rp H m (n + 1) Z (.tup l) (.ref a) from ⟨a, xs, rfl, ha, hl, pr⟩)) ki_tup_dict)) (fun h => nomatch h) fun _ H6 e6 => ?_
        have m6 := m02.tx e6
        refine Evl.q_asgL (el_list (Evl.ev_var rfl) (.inr (Evl.st_of (hak m6)))) fun q H8 hq e8 hq8 => ?_
        have m8 := m6.tx e8
        have qS := m6.z.someS hq
        have qH := m6.back hq
        have old : ∀ {Hx : Hp}, Mv S c H Hx → ∀ x ∈ xs, Gv (m + 1) (n + 11) (fun b => (Z b ∨ H b = none) ∧ b ≠ q) Hx x := fun mv x hm => gv_up (by omega) (by omega) (fun b hb => ⟨.inl hb.1, hb.2⟩) (gv_mv (Z := fun b => Z b ∧ b ≠ q) mv (fun z => nZS z.1) (fun z => nZc z.1) (gv_ne qH (hx x hm)))
        refine q_asgS (tspoil (Z := fun b => Z b ∧ b ≠ q) (Evl.ev_var rfl) (Evl.ev_op (Evl.ev_var rfl) (Evl.ev_var rfl) (Evl.rv_ixL (Evl.sq_of hq8) (atI_nat hxi))) m8.z (gv_mv m8 (fun z => nZS z.1) (fun z => nZc z.1) (gv_ne qH (hx x (List.mem_of_getElem? hxi)))) (fun z => nZS z.1) (fun z => nZc z.1) m16 mz fun H9 y m9 gy => ?_)
        have m09 := m8.trans m9
        have hq9 := m9.fr q _ qS.1 qS.2 hq8
        refine ⟨_, rfl, _, rfl, q, xs, (i : Int), i, rfl, rfl, hq9, Evl.ixN_nat hi, ?_⟩
        have m10 : Mv S c H (upd H9 q (.lst (xs.set i y))) := m09.mut qH
        have q10 : (upd H9 q (.lst (xs.set i y))) q = some (.lst (xs.set i y)) := upd_same
        have gy' : Gv (m + 1) (n + 11) (fun b => (Z b ∨ H b = none) ∧ b ≠ q) H9 y := gv_up (Nat.le_refl _) (Nat.le_refl _) (fun b hb => by
          rcases hb with hb | hb
          · exact ⟨.inl hb.1, hb.2⟩
          · refine ⟨.inr (m8.back hb), fun z => ?_⟩
            rw [z, hq8] at hb; cases hb) gy
        have all10 : ∀ z ∈ xs.set i y, Gv (m + 1) (n + 11) (fun b => Z b ∨ H b = none) (upd H9 q (.lst (xs.set i y))) z := fun z hz => by
          refine gv_up (Nat.le_refl _) (Nat.le_refl _) (fun b hb => hb.1) (gv_upd (Z := fun b => (Z b ∨ H b = none) ∧ b ≠ q) hq9 (fun _ z => nomatch z) (fun b z => z.2) ?_)
          rcases List.mem_or_eq_of_mem_set hz with hz | hz
          · exact old m09 z hz
          · rw [hz]; exact gy'
        have l10 : (xs.set i y).length = xs.length := List.length_set ..
        generalize upd H9 q (.lst (xs.set i y)) = H10 at m10 q10 all10 ⊢
        refine Evl.q_when (b := true) (Evl.et_B (ev_isC (Evl.ev_var rfl) (rp_mv m10 nZS nZc (show Rp H m (n + 1) Z (.tup l) (.ref a) from ⟨a, xs, rfl, ha, hl, pr⟩)) ki_tup_tuple)) (fun _ H11 e11 => ?_) fun h => nomatch h
        exact s_retM (ep_tupOf (m := m + 1) (n := n + 11) (Z := fun b => Z b ∨ H b = none) (Evl.ev_var rfl) (e11 _ _ q10) (fun z hz => gv_ex e11 (all10 z hz)) (by omega) _ (Ex.refl _) _ fun v12 H12 e12 g12 => k H12 v12 (m10.tx (e11.trans e12)) (gv_up (by omega) (Nat.le_refl _) (fun _ z => z) g12))
/-- data no deeper than N -/
def spSpoilU (N : Nat) : Sp := fun vs H Q E => ∃ n, n ≤ N ∧ spSpoil n vs H Q E
theorem ok__law_spoil (T : Txt K mg C_Shape C_InvalidData C_InvalidShape C_StayError) (R : Prg K mg C_Shape C_InvalidData C_InvalidShape C_StayError) (N : Nat) : ∃ f fd, Fn P w K mg base "_law_spoil" (N + 6) ["_law_stream_here", "_law_value"] (spSpoilU N) f fd := by
  obtain ⟨f, fd, at_, F, kp⟩ := R._law_spoil
  have B := fun n => ok__law_spoilA (P := P) (w := w) (base := base) T R at_ F kp n
  exact ⟨f, fd, ⟨fun vs H Q E ⟨n, _, h⟩ => (B n).ok.len vs H Q E h, fun A outer s H args us vs Q E hr he hb hv ⟨n, hn, h⟩ => (B n).ok.run A outer s H args us vs Q E (hr.mono (by omega)) he hb hv h⟩, at_, kp, (B 0).bd⟩
end
end Pk

namespace Pk
open PySem PySem.Spec PyProof.Rows L2 Ssb
open Evl (Ex Ev EvT EvL EvA EvU)
/-! ### names in order -/
theorem lt_tot : ∀ xs ys : List Nat, ltCps xs ys = false → ltCps ys xs = false → xs = ys
  | [], [], _, _ => rfl
  | [], _ :: _, h, _ => nomatch h
  | _ :: _, [], _, h => nomatch h
  | a :: r, b :: t, h1, h2 => by
    simp only [ltCps, Bool.or_eq_false_iff, decide_eq_false_iff_not, Bool.and_eq_false_iff, beq_eq_false_iff_ne] at h1 h2
    have e : a = b := by omega
    subst e
    rw [lt_tot r t (h1.2.resolve_left fun h => h rfl) (h2.2.resolve_left fun h => h rfl)]
theorem sort_uniq {l m : List Str} (p : l.Perm m) (h : m.length ≤ 2) (sl : sortedS l = true) (sm : sortedS m = true) : l = m := by
  match m, h with
  | [], _ => exact p.eq_nil
  | [x], _ => exact List.perm_singleton.mp p
  | [a, b], _ =>
    match l, p.length_eq with
    | [c, d], _ =>
      by_cases e : c = a
      · subst e
        rw [List.cons.inj (List.perm_singleton.mp ((List.perm_cons c).mp p)) |>.1]
      · have hc : c = b := by
          have := p.mem_iff.mp (List.mem_cons_self : c ∈ [c, d])
          rcases List.mem_cons.mp this with h | h
          · exact absurd h e
          · exact List.mem_singleton.mp h
        subst hc
        have hd : d = a := (List.cons.inj (List.perm_singleton.mp ((List.perm_cons c).mp (p.trans (List.Perm.swap c a []))))).1
        subst hd
        have s1 : ltCps d.cps.toList c.cps.toList = false := by
          simp only [sortedS, risingS, Bool.and_true, Bool.not_eq_true'] at sl; exact sl
        have s2 : ltCps c.cps.toList d.cps.toList = false := by
          simp only [sortedS, risingS, Bool.and_true, Bool.not_eq_true'] at sm; exact sm
        have := lt_tot _ _ s1 s2
        obtain ⟨⟨c⟩⟩ := c
        obtain ⟨⟨d⟩⟩ := d
        have : d = c := this
        rw [this]
open Classical in
noncomputable def srt (l : List Str) : List Str := if h : ∃ m : List Str, m.Perm l ∧ sortedS m = true then h.choose else l
theorem srt_eq {l ys : List Str} (h : l.length ≤ 2) (p : ys.Perm l) (s : sortedS ys = true) : ys = srt l := by
  have e : ∃ m : List Str, m.Perm l ∧ sortedS m = true := ⟨ys, p, s⟩
  unfold srt
  rw [dif_pos e]
  have c := e.choose_spec
  exact sort_uniq (p.trans c.1.symm) (by rw [c.1.length_eq]; exact h) s c.2
theorem srt_perm {l : List Str} : (srt l).Perm l := by
  unfold srt
  split
  · next h => exact h.choose_spec.1
  · exact List.Perm.refl _
theorem srt_one {l : List Str} (h : l.length ≤ 1) : srt l = l := by
  have p := srt_perm (l := l)
  match l, h with
  | [], _ => exact List.perm_nil.mp p
  | [x], _ => exact List.perm_singleton.mp p
theorem hasN_perm {g : G} {ns ns' : List Str} (p : ns.Perm ns') : hasN g ns = hasN g ns' := by
  unfold hasN
  cases dicG g with
  | none => rfl
  | some l =>
    show (decide (l.length = ns.length) && ns.all fun n => (lkG l (Sum.inr n)).isSome) = (decide (l.length = ns'.length) && ns'.all fun n => (lkG l (Sum.inr n)).isSome)
    rw [p.length_eq]
    congr 1
    rw [Bool.eq_iff_iff, List.all_eq_true, List.all_eq_true]
    exact ⟨fun h x hx => h x (p.mem_iff.mpr hx), fun h x hx => h x (p.mem_iff.mp hx)⟩
/-! ### the first that tells something -/
theorem fs_take {α β : Type} {F : α → Option β} : ∀ {xs : List α} {i : Nat} {x : α} {p : β}, (∀ y ∈ xs.take i, F y = none) → xs[i]? = some x → F x = some p → xs.findSome? F = some p
  | [], i, x, p, _, h, _ => by simp at h
  | y :: xs, 0, x, p, _, h, hp => by
    simp at h; subst h
    rw [List.findSome?_cons, hp]
  | y :: xs, i + 1, x, p, h, hx, hp => by
    rw [List.findSome?_cons, h y (by simp)]
    exact fs_take (i := i) (fun z hz => h z (by rw [List.take_succ_cons]; exact List.mem_cons_of_mem _ hz)) (by simpa using hx) hp
theorem fs_none {α β : Type} {F : α → Option β} {xs : List α} (h : ∀ y ∈ xs, F y = none) : xs.findSome? F = none := List.findSome?_eq_none_iff.mpr h
/-! ### what the checks say -/
def wordsW (ns : List Str) (ok : Str → G → Bool) (g : G) : Option (List Key) :=
  if hasN g ns = true then ns.findSome? (fun n => if ok n (atG g n) = true then none else some [Sum.inr n]) else some []
def idOk (g : G) (ids : List Int) : Bool := match g with
  | .int i => (decide (0 ≤ i) && decide (i ≤ 1000000)) && !(decide (i ∈ ids))
  | _ => false
def idOf (g : G) : Int := match atG g "id" with
  | .int i => i
  | _ => 0
def fldOk (f : Fl) (n : Str) (g : G) : Bool := match g with
  | .str x => ((f.lookup n).getD []).contains x
  | _ => false
def isBlG : G → Bool
  | .bl _ => true
  | _ => false
noncomputable def rowW (f : Fl) (ids : List Int) (g : G) : Option (List Key) :=
  if hasN g ["id", "fields", "lists"] = true then
    if idOk (atG g "id") ids = true then (wordsW (srt (f.map (·.1))) (fldOk f) (atG g "fields")).map (Sum.inr ("fields" : Str) :: ·)
    else some [Sum.inr ("id" : Str)]
  else some []
def listsW (R : Str → G → Option (List Key)) (nms : List Str) (g : G) : Option (List Key) :=
  if hasN g nms = true then nms.findSome? (fun nm => (R nm (atG g nm)).map (Sum.inr nm :: ·)) else some []
noncomputable def rowA (f : Fl) (R : Str → G → Option (List Key)) (nms : List Str) (ids : List Int) (g : G) : Option (List Key) := match rowW f ids g with
  | some p => some p
  | none => (listsW R nms (atG g "lists")).map (Sum.inr ("lists" : Str) :: ·)
def rowsF (A : List Int → G → Option (List Key)) : List G → Nat → List Int → Option (List Key)
  | [], _, _ => none
  | r :: rs, k, ids => match A ids r with
    | some p => some (Sum.inl (k : Int) :: p)
    | none => rowsF A rs (k + 1) (ids ++ [idOf r])
def rowsW (A : List Int → G → Option (List Key)) (g : G) : Option (List Key) := match g with
  | .lst rs => rowsF A rs 0 []
  | _ => some []
def fieldsOf (s : Sh) (nm : Str) : Fl := (((rowsS s).find? fun r => decide (r.1 = nm)).map (·.2.2)).getD []
noncomputable def RW : Nat → Sh → Str → G → Option (List Key)
  | 0, _, _, _ => none
  | m + 1, s, nm, g => rowsW (rowA (fieldsOf s nm) (RW m s) (srt (kids s (some nm)))) g
noncomputable def dataW (fl : List Str) (s : Sh) (g : G) : Option (List Key) :=
  if hasN g ["flags", "lists"] = true then
    match wordsW (srt fl) (fun _ x => isBlG x) (atG g "flags") with
    | some p => some (Sum.inr ("flags" : Str) :: p)
    | none => (listsW (RW 2 s) (srt (kids s none)) (atG g "lists")).map (Sum.inr ("lists" : Str) :: ·)
  else some []
theorem fieldsOf_eq {s : Sh} (nd : ((rowsS s).map (·.1)).Nodup) {r : Ro} (h : r ∈ rowsS s) : fieldsOf s r.1 = r.2.2 := by
  unfold fieldsOf
  generalize rowsS s = l at nd h
  induction l with
  | nil => exact nomatch h
  | cons a l ih =>
    rw [List.map_cons, List.nodup_cons] at nd
    rw [List.find?_cons]
    by_cases c : a.1 = r.1
    · rw [decide_eq_true c]
      rcases List.mem_cons.mp h with h | h
      · rw [← h]; rfl
      · exact absurd (List.mem_map.mpr ⟨r, h, c.symm⟩) nd.1
    · rw [decide_eq_false c]
      rcases List.mem_cons.mp h with h | h
      · exact absurd (by rw [h]) c
      · exact ih nd.2 h
/-- one turn of the rows -/
theorem rowsF_drop {A : List Int → G → Option (List Key)} {rs : List G} {i : Nat} {r : G} (h : rs[i]? = some r) (ids : List Int) : rowsF A (rs.drop i) i ids = match A ids r with
    | some p => some (Sum.inl (i : Int) :: p)
    | none => rowsF A (rs.drop (i + 1)) (i + 1) (ids ++ [idOf r]) := by
  obtain ⟨hi, e⟩ := List.getElem?_eq_some_iff.mp h
  rw [List.drop_eq_getElem_cons hi, e]
  rfl
/-! ### how it is told -/
def saysX (CE : Addr) (res : Option (List Key)) (pk : List Key) (H : Hp) (Q : VK) (E : Value → Option Addr → Hp → Prop) : Prop :=
  (res = none → ∀ H', Ex H H' → Q .non H') ∧
  ∀ q, res = some q → ∀ H' t d, Ex H H' → H' t = some (.tup ((pk ++ q).map kV)) → H' d = none → E (.ref CE) (some d) (upd H' d (.xd [("path", .ref t)]))
/-- a place: a tuple of keys, not empty -/
def PlK (H : Hp) (v : V) (pk : List Key) : Prop := ∃ a, v = .ref a ∧ H a = some (.tup (pk.map kV)) ∧ pk ≠ [] ∧ pk.length ≤ 20
theorem PlK.ex {H H' : Hp} {v : V} {pk : List Key} (e : Ex H H') (h : PlK H v pk) : PlK H' v pk := by
  obtain ⟨a, h0, h1, h2⟩ := h; exact ⟨a, h0, e _ _ h1, h2⟩
theorem saysX.ex {CE : Addr} {res : Option (List Key)} {pk : List Key} {H H' : Hp} {Q : VK} {E : Value → Option Addr → Hp → Prop} (e : Ex H H') (h : saysX CE res pk H Q E) : saysX CE res pk H' Q E :=
  ⟨fun r H2 e2 => h.1 r H2 (e.trans e2), fun q r H2 t d e2 ht hd => h.2 q r H2 t d (e.trans e2) ht hd⟩
/-- place + (x,), the key x -/
theorem ev_plK {K : PySem.W.Frag} {σ : L2.St} {H : Hp} {ta tb : TE} {pl : V} {pk : List Key} {x : Key} (h : Ev ta σ H pl) (hp : PlK H pl pk) (hl : pk.length ≤ 19) (hy : Ev tb σ H (kV x)) : ∀ H1, Ex H H1 → ∀ Q : VK, (∀ v H2, Ex H1 H2 → PlK H2 v (pk ++ [x]) → Q v H2) → (tOp (rCatT K) ta (tTup (tCons tb tNil))) σ H1 Q := fun H1 e Q q => by
  obtain ⟨a, rfl, ha, ne, _⟩ := hp
  have ne' : pk.map kV ≠ [] := fun z => ne (List.map_eq_nil_iff.mp z)
  refine h H1 e _ fun H2 e2 => hy H2 (e.trans e2) _ fun H3 e3 => ⟨(by show 1 ≤ sizeLine; decide), fun t ht => ⟨a, t, pk.map kV, [kV x], rfl, rfl, Evl.st_of ((e.trans (e2.trans (e3.trans (Ex.new ht)))) _ _ ha), Evl.st_of upd_same, ne', Evl.sz_of (by simp only [List.length_singleton, List.length_map]; omega), (fun z => nomatch z), fun _ p hp => ?_⟩⟩
  exact q _ _ (e2.trans (e3.trans ((Ex.new ht).trans (Ex.new hp)))) ⟨p, rfl, by rw [upd_same, List.map_append]; rfl, by simp, by simp only [List.length_append, List.length_singleton]; omega⟩
end Pk

namespace Pk
open PySem PySem.Spec PyProof.Rows L2 Ssb
open Evl (Ex Ev EvT EvL EvA EvU)
section
variable {P : Program} {w : World} {K : PySem.W.Frag} {mg : Str → Option Value} {base : Heap} {C_Shape C_InvalidData C_InvalidShape C_StayError : Addr}
def spKeep (C : Addr) (n : Str) : Sp := fun vs H Q _ => ∃ (a : Addr) (y : V), vs = [.ref a, y] ∧ H a = some (exo a C none) ∧ ∀ dx, H dx = none → dx ≠ a → Q .non (upd (upd H dx (exd dx [(n, y)])) a (exo a C (some dx)))
theorem ok_InvalidData_init (T : Txt K mg C_Shape C_InvalidData C_InvalidShape C_StayError) (R : Prg K mg C_Shape C_InvalidData C_InvalidShape C_StayError) : ∃ f fd, Mt P w K mg base C_InvalidData "__init__" 1 ["self", "path"] (spKeep C_InvalidData "path") f fd ∧ PySem.W.typeIn K (.ref f) = some (.type "function") := by
  obtain ⟨f, fd, F, fi, isf, kp⟩ := R.InvalidData_init
  refine ⟨f, fd, ⟨F.ok sc_InvalidData_init (fun vs H Q E h => ?_) (fun cdv A outer s H vs Q E hr h => ?_), ⟨fi, isf, kp⟩, F.binds (fun _ _ _ _ _ _ us hl => match us, hl with | [_, _], _ => rfl)⟩, ?_⟩
  · obtain ⟨a, y, rfl, _⟩ := h; rfl
  · obtain ⟨a, y, rfl, ha, k⟩ := h
    exact ⟨_, pss_one (ps_osE (pv 0) (pv 1)), _, rfl, _, rfl, a, C_InvalidData, rfl, T.ox_InvalidData, T.no_InvalidData_path, ha, k⟩
  · have h := isf
    unfold PySem.W.isFn at h
    exact beq_iff_eq.mp h
theorem made_heap {H : Hp} {a d C : Addr} {n : Str} {y : V} (ha : H a = none) (hd : H d = none) (ne : d ≠ a) : upd (del (upd (upd (upd H a (exo a C none)) d (exd d [(n, y)])) a (exo a C (some d))) a) d (.xd [(n, y)]) = upd H d (.xd [(n, y)]) := by
  funext b
  by_cases h1 : b = d
  · rw [h1, upd_same, upd_same]
  · rw [upd_ne h1, upd_ne h1]
    by_cases h2 : b = a
    · rw [h2, del_same, ha]
    · rw [del_ne h2, upd_ne h2, upd_ne h1, upd_ne h2]
theorem s_raiseP {CE : Addr} {te : TE} {σ : L2.St} {H : Hp} {E : Value → Option Addr → Hp → Prop} {pk : List Key} (h : ∀ Q : VK, (∀ t H', Ex H H' → H' t = some (.tup (pk.map kV)) → Q (.ref t) H') → te σ H Q)
    (k : ∀ H' t d, Ex H H' → H' t = some (.tup (pk.map kV)) → H' d = none → E (.ref CE) (some d) (upd H' d (.xd [("path", .ref t)]))) : tMkO CE (spKeep CE "path") [] (tCons te tNil) σ H E :=
  h _ fun t H1 e1 ht => ⟨(by show 1 ≤ 1000; decide), fun a ha => ⟨a, .ref t, rfl, upd_same, fun d hd ne => by
    refine ⟨rfl, d, [("path", .ref t)], upd_same, ?_, ?_, ?_⟩
    · rw [upd_ne ne, upd_same]
    · rw [upd_ne ne] at hd; exact hd
    · rw [upd_ne ne] at hd
      rw [made_heap ha hd ne]
      exact k H1 t d e1 ht hd⟩⟩
/-! ### is_integer and is_choice of any datum -/
def intOk (g : G) (lo hi : Int) : Bool := match g with
  | .int i => decide (lo ≤ i) && decide (i ≤ hi)
  | _ => false
def preIntG : List V → Hp → Bool → Prop := fun vs H b => ∃ (v : V) (m n : Nat) (S : Addr → Prop) (g : G) (lo hi : Int), vs = [v, .int lo, .int hi] ∧ Rp H m n S g v ∧ b = intOk g lo hi
theorem ok_is_integerG (T : Txt K mg C_Shape C_InvalidData C_InvalidShape C_StayError) (R : Prg K mg C_Shape C_InvalidData C_InvalidShape C_StayError) : ∃ f fd, Fn P w K mg base "is_integer" 1 ["value", "least", "most"] (spB preIntG) f fd := by
  obtain ⟨f, fd, at_, F, kp⟩ := R.is_integer
  refine ⟨f, fd, F.ok sc_is_integer (fun vs H Q E h => ?_) (fun cdv A outer s H vs Q E hr h => ?_), at_, kp, F.binds (fun _ _ _ _ _ _ us hl => match us, hl with | [_, _, _], _ => rfl)⟩
  · obtain ⟨b, ⟨v, m, n, S, g, lo, hi, rfl, _⟩, _⟩ := h; rfl
  · obtain ⟨b, ⟨v, m, n, S, g, lo, hi, rfl, hg, rfl⟩, k⟩ := h
    refine ⟨_, (pss_one (ps_ret (pe_and (pe_callB (r := rIsi K) call_isi (by rfl) T.isinstance (by decide +kernel) (pa_cons (pv 0) (pa_cons (pe_bltn (v := .ty "int") (by rfl) T.int boot_int rfl) pa_nil))) (pe_and (pe_not (pe_callB (r := rIsi K) call_isi (by rfl) T.isinstance (by decide +kernel) (pa_cons (pv 0) (pa_cons (pe_bltn (v := .ty "bool") (by rfl) T.bool boot_bool rfl) pa_nil)))) (pe_one (pe_chain op_le op_le (pv 1) (pv 0) (pv 2))))))), ?_⟩
    refine Evl.s_ret (v := .bl (intOk g lo hi)) ?_ fun H2 e2 => k H2 e2
    obtain ⟨n, rfl⟩ := rp_pos hg
    cases g with
    | non => exact Evl.ev_andV (a := false) (b := false) (ev_isC (Evl.ev_var rfl) hg ki_non_int) fun h => nomatch h
    | str x => exact Evl.ev_andV (a := false) (b := false) (ev_isC (Evl.ev_var rfl) hg ki_str_int) fun h => nomatch h
    | lst x => exact Evl.ev_andV (a := false) (b := false) (ev_isC (Evl.ev_var rfl) hg ki_lst_int) fun h => nomatch h
    | tup x => exact Evl.ev_andV (a := false) (b := false) (ev_isC (Evl.ev_var rfl) hg ki_tup_int) fun h => nomatch h
    | dic x => exact Evl.ev_andV (a := false) (b := false) (ev_isC (Evl.ev_var rfl) hg ki_dic_int) fun h => nomatch h
    | bl x => exact Evl.ev_andV (a := true) (b := false) (ev_isC (Evl.ev_var rfl) hg ki_bl_int) fun _ => Evl.ev_andV (a := false) (b := false) (Evl.ev_notV (a := true) (ev_isC (Evl.ev_var rfl) hg ki_bl_bool)) fun h => nomatch h
    | int i =>
      have e : v = .int i := hg
      subst e
      exact Evl.ev_andV (a := true) (b := decide (lo ≤ i) && decide (i ≤ hi)) (ev_isC (Evl.ev_var rfl) hg ki_int_int) fun _ => Evl.ev_andV (a := true) (b := decide (lo ≤ i) && decide (i ≤ hi)) (Evl.ev_notV (a := false) (ev_isC (Evl.ev_var rfl) hg ki_int_bool)) fun _ => ev_chain (Evl.ev_var rfl) (Evl.ev_var rfl) (Evl.ev_var rfl) Evl.rv_I0 Evl.rv_I0
/-- value in several, of a text or a bool -/
def chB (xs : List V) (g : G) : Bool := match g with
  | .str s => inV (.str s) xs
  | .bl b => inV (.bl b) xs
  | _ => false
def preChG : List V → Hp → Bool → Prop := fun vs H b => ∃ (v : V) (m n : Nat) (S : Addr → Prop) (g : G) (t : Addr) (xs : List V), vs = [v, .ref t] ∧ Rp H m n S g v ∧ H t = some (.tup xs) ∧ (∀ x ∈ xs, txtBl x) ∧ b = chB xs g
theorem txtBl_flat {v : V} (h : txtBl v) : flatV v = true := by
  rcases h with ⟨s, rfl⟩ | ⟨b, rfl⟩ <;> rfl
theorem kit2 {K : PySem.W.Frag} {a : String} {b1 b2 : Bool} (h1 : kitB a "str" = some b1) (h2 : kitB a "bool" = some b2) : PySem.W.kitAny K (.type a) [.type "str", .type "bool"] = some (b1 || b2) := by
  cases b1 with
  | true => exact kitAny_cons (b := true) (kit_ty h1) (fun h => nomatch h) fun _ => rfl
  | false =>
    refine kitAny_cons (b := false) (kit_ty h1) (fun _ => ?_) fun h => nomatch h
    cases b2 with
    | true => exact kitAny_cons (b := true) (kit_ty h2) (fun h => nomatch h) fun _ => rfl
    | false => exact kitAny_cons (b := false) (kit_ty h2) (fun _ => rfl) fun h => nomatch h
theorem ok_is_choiceG (T : Txt K mg C_Shape C_InvalidData C_InvalidShape C_StayError) (R : Prg K mg C_Shape C_InvalidData C_InvalidShape C_StayError) : ∃ f fd, Fn P w K mg base "is_choice" 1 ["value", "several"] (spB preChG) f fd := by
  obtain ⟨f, fd, at_, F, kp⟩ := R.is_choice
  refine ⟨f, fd, F.ok sc_is_choice (fun vs H Q E h => ?_) (fun cdv A outer s H vs Q E hr h => ?_), at_, kp, F.binds (fun _ _ _ _ _ _ us hl => match us, hl with | [_, _], _ => rfl)⟩
  · obtain ⟨b, ⟨v, m, n, S, g, t, xs, rfl, _⟩, _⟩ := h; rfl
  · obtain ⟨b, ⟨v, m, n, S, g, t, xs, rfl, hg, ht, hx, rfl⟩, k⟩ := h
    refine ⟨_, (pss_one (ps_ret (pe_and (pe_callB (r := rIsiT K) call_isiT (by rfl) T.isinstance (by decide +kernel) (pa_cons (pv 0) (pa_cons (pe_tup (pa_cons (pe_bltn (v := .ty "str") (by rfl) T.str boot_str rfl) (pa_cons (pe_bltn (v := .ty "bool") (by rfl) T.bool boot_bool rfl) pa_nil))) pa_nil))) (pe_one (pe_cmpR (r := rIn K false) op_in_seq (pv 0) (pv 1) (by rfl)))))), ?_⟩
    refine Evl.s_ret (v := .bl (chB xs g)) ?_ fun H2 e2 => k H2 e2
    have ty : ∀ H1, Ex H H1 → TyX K H1 v (.type (gT g)) := fun H1 e1 => .base (rp_ty (rp_ex e1 hg))
    obtain ⟨n, rfl⟩ := rp_pos hg
    cases g with
    | non => exact Evl.ev_andV (a := false) (b := false) (ev_isi2 (Evl.ev_var rfl) ty (kit2 (a := "NoneType") (b1 := false) (b2 := false) (by decide +kernel) (by decide +kernel))) fun h => nomatch h
    | int x => exact Evl.ev_andV (a := false) (b := false) (ev_isi2 (Evl.ev_var rfl) ty (kit2 (a := "int") (b1 := false) (b2 := false) (by decide +kernel) (by decide +kernel))) fun h => nomatch h
    | lst x => exact Evl.ev_andV (a := false) (b := false) (ev_isi2 (Evl.ev_var rfl) ty (kit2 (a := "list") (b1 := false) (b2 := false) (by decide +kernel) (by decide +kernel))) fun h => nomatch h
    | tup x => exact Evl.ev_andV (a := false) (b := false) (ev_isi2 (Evl.ev_var rfl) ty (kit2 (a := "tuple") (b1 := false) (b2 := false) (by decide +kernel) (by decide +kernel))) fun h => nomatch h
    | dic x => exact Evl.ev_andV (a := false) (b := false) (ev_isi2 (Evl.ev_var rfl) ty (kit2 (a := "dict") (b1 := false) (b2 := false) (by decide +kernel) (by decide +kernel))) fun h => nomatch h
    | bl x =>
      have e : v = .bl x := hg
      subst e
      exact Evl.ev_andV (a := true) (b := inV (.bl x) xs) (ev_isi2 (Evl.ev_var rfl) ty (kit2 (a := "bool") (b1 := false) (b2 := true) (by decide +kernel) (by decide +kernel))) fun _ => Evl.ev_op (Evl.ev_var rfl) (Evl.ev_var rfl) (Evl.rv_isT (Evl.st_of ht) rfl (List.all_eq_true.mpr fun y hy => txtBl_flat (hx y hy)))
    | str x =>
      obtain ⟨e, _⟩ : v = .str x ∧ x.length ≤ sB m := hg
      subst e
      exact Evl.ev_andV (a := true) (b := inV (.str x) xs) (ev_isi2 (Evl.ev_var rfl) ty (kit2 (a := "str") (b1 := true) (b2 := false) (by decide +kernel) (by decide +kernel))) fun _ => Evl.ev_op (Evl.ev_var rfl) (Evl.ev_var rfl) (Evl.rv_isT (Evl.st_of ht) rfl (List.all_eq_true.mpr fun y hy => txtBl_flat (hx y hy)))
end
end Pk

namespace Pk
open PySem PySem.Spec PyProof.Rows L2 Ssb
open Evl (Ex Ev EvT EvL EvA EvU)
theorem gname_go {i : Nat} {v : V} {σ : L2.St} {H : Hp} {k : L2.St → Hp → Prop} (h : k (σ.set i (some v)) H) : gName i v σ H k := h
theorem cho_keys {H : Hp} : ∀ {c : List (Str × List V)} {es : List (Key × V)}, Paired (fun (q : Str × List V) (e : Key × V) => e.1 = Sum.inr q.1 ∧ ∃ t, e.2 = .ref t ∧ H t = some (.tup q.2)) c es → es.map (fun kv => kV kv.1) = (c.map (·.1)).map V.str := by
  intro c es p
  induction p with
  | nil => rfl
  | cons h t ih => rw [List.map_cons, ih, h.1]; rfl
theorem lk_nd {α : Type} : ∀ {c : List (Str × α)} {k : Str} {x : α}, (c.map (·.1)).Nodup → (k, x) ∈ c → c.lookup k = some x
  | (j, d) :: l, k, x, nd, h => by
    rw [List.map_cons, List.nodup_cons] at nd
    rw [lk_cons]
    rcases List.mem_cons.mp h with h | h
    · cases h; rw [if_pos rfl]
    · rw [if_neg (fun e => nd.1 (by rw [← e]; exact List.mem_map.mpr ⟨_, h, rfl⟩))]
      exact lk_nd nd.2 h
/-- the datum at a name of a dict that has it -/
theorem atg {H : Hp} {m n : Nat} {S : Addr → Prop} {g : G} {v : V} {ns : List Str} {nm : Str} (hv : Rp H m n S g v) (hn : hasN g ns = true) (hm : nm ∈ ns) :
    ∃ a es w k, v = .ref a ∧ H a = some (.dK es) ∧ valV es (Sum.inr nm : Key) = some w ∧ n = k + 1 ∧ Rp H m k (fun b => S b ∧ b ≠ a) (atG g nm) w := by
  cases hd : dicG g with
  | none => unfold hasN at hn; rw [hd] at hn; cases hn
  | some l =>
    have eg : g = .dic l := by cases g <;> simp [dicG] at hd; rw [hd]
    subst eg
    unfold hasN at hn
    rw [hd] at hn
    have hn : (decide (l.length = ns.length) && ns.all fun n => (lkG l (Sum.inr n)).isSome) = true := hn
    rw [Bool.and_eq_true] at hn
    have h2 := List.all_eq_true.mp hn.2 nm hm
    obtain ⟨k, a, es, rfl, rfl, _, ha, _, _, _, _, pr⟩ := rp_dic hv
    obtain ⟨w, h1, h3⟩ := rp_get pr h2
    exact ⟨a, es, w, k, rfl, ha, h1, rfl, h3⟩
section
variable {P : Program} {w : World} {K : PySem.W.Frag} {mg : Str → Option Value} {base : Heap} {C_Shape C_InvalidData C_InvalidShape C_StayError : Addr}
def spCwX (CE : Addr) : Sp := fun vs H Q E => ∃ (v pl : V) (ch : Addr) (m n : Nat) (S : Addr → Prop) (g : G) (c : List (Str × List V)) (pk : List Key), vs = [v, .ref ch, pl] ∧ Rp H m n S g v ∧ ChoAt H ch c ∧ (c.map (·.1)).Nodup ∧ c.length ≤ 2 ∧ (∀ q ∈ c, ∀ x ∈ q.2, txtBl x) ∧ PlK H pl pk ∧ pk.length ≤ 18 ∧
  saysX CE (wordsW (srt (c.map (·.1))) (fun nm x => chB ((c.lookup nm).getD []) x) g) pk H Q E
theorem ok_check_wordsX (T : Txt K mg C_Shape C_InvalidData C_InvalidShape C_StayError) (R : Prg K mg C_Shape C_InvalidData C_InvalidShape C_StayError) : ∃ f fd, FnX P w K mg base "check_words" 3 ["chosen", "choices", "place"] (spCwX C_InvalidData) f fd := by
  obtain ⟨_, _, G_has_names⟩ := ok_has_namesG (P := P) (w := w) (base := base) T R
  obtain ⟨_, _, G_is_choice⟩ := ok_is_choiceG (P := P) (w := w) (base := base) T R
  obtain ⟨_, _, G_InvalidData, tI⟩ := ok_InvalidData_init (P := P) (w := w) (base := base) T R
  obtain ⟨f, fd, at_, F, kp⟩ := R.check_words
  refine ⟨f, fd, F.okX sc_check_words (fun vs H Q E h => ?_) (fun cdv A outer s H vs Q E hr h => ?_), at_, kp, F.binds (fun _ _ _ _ _ _ us hl => match us, hl with | [_, _, _], _ => rfl)⟩
  · obtain ⟨v, pl, ch, m, n, S, g, c, pk, rfl, _⟩ := h; rfl
  · obtain ⟨v, pl, ch, m, n, S, g, c, pk, rfl, hv, hch, hnd, hl2, htx, hpl, hk, k⟩ := h
    obtain ⟨es, hes, pr⟩ := id hch
    have le := pair_len pr
    have keys := cho_keys pr
    have lm : (c.map (·.1)).length ≤ 2 := by rw [List.length_map]; exact hl2
    refine ⟨_, (pss_cons (ps_if (pt_not (pt_val (pcl G_has_names hr (pa_cons (pv 0) (pa_cons (pe_callTy (call_listD rfl) (by rfl) T.list (by decide +kernel) (pa_cons (pv 1) pa_nil)) pa_nil))))) (pss_one (ps_raise rfl (takes_of rfl rfl rfl rfl) (pmk_oexE T.ox_InvalidData G_InvalidData tI hr T.at_InvalidData (pa_cons (pv 2) pa_nil)))) pss_nil)
  (pss_one (ps_for (passes_of rfl) rfl (show PI _ _ _ (iList K _) from pi_list (pe_callB (r := rSortedS K) cr_sortedS (by rfl) T.sorted (by decide +kernel) (pa_cons (pe_callTy (call_listD rfl) (by rfl) T.list (by decide +kernel) (pa_cons (pv 1) pa_nil)) pa_nil))) (pg_name (i := 3) sc_check_words.nd rfl (Or.inl rfl))
    (pss_one (ps_if (pt_not (pt_val (pcl G_is_choice hr (pa_cons (pe_dget (hu_of hr) (pv 0) (pv 3) (fun _ _ => rfl)) (pa_cons (pe_dget (hu_of hr) (pv 1) (pv 3) (fun _ _ => rfl)) pa_nil))))) (pss_one (ps_raise rfl (takes_of rfl rfl rfl rfl) (pmk_oexE T.ox_InvalidData G_InvalidData tI hr T.at_InvalidData (pa_cons (pe_op (r := rCatT K) op_catT (pv 2) (pe_tup (pa_cons (pv 3) pa_nil))) pa_nil)))) pss_nil))))), ?_⟩
    refine Evl.q_when (b := !hasN g (srt (c.map (·.1)))) (Evl.et_not (Evl.et_B fun H1 e1 Q' q' => ?_)) (fun hb H1 e1 => ?_) fun hb H1 e1 => ?_
    · exact ⟨_, rfl, _, rfl, ch, es, rfl, .inl (e1 _ _ hes), fun a ha => ⟨hasN g (srt (c.map (·.1))), ⟨v, m, n, S, g, a, c.map (·.1), rfl, rp_ex (e1.trans (Ex.new ha)) hv, Evl.sq_of (by rw [upd_same, keys]), by omega, hasN_perm srt_perm⟩, fun H2 e2 => q' H2 ((Ex.new ha).trans e2)⟩⟩
    · have hw : wordsW (srt (c.map (·.1))) (fun nm x => chB ((c.lookup nm).getD []) x) g = some [] := by
        unfold wordsW; rw [if_neg (by simpa using hb)]
      obtain ⟨pa, rfl, hpa, _⟩ := hpl
      exact s_raiseP (pk := pk) (fun Q' q' => ⟨_, rfl, q' pa H1 (Ex.refl _) (e1 _ _ hpa)⟩) fun H' t d e' ht hd => k.2 [] hw H' t d (e1.trans e') (by rw [List.append_nil]; exact ht) hd
    have hn : hasN g (srt (c.map (·.1))) = true := by simpa using hb
    refine ⟨_, rfl, ch, es, rfl, .inl (e1 _ _ hes), fun a ha => ⟨a, c.map (·.1), rfl, Evl.sq_of (by rw [upd_same, keys]), by omega, fun ys b perm so hb => ?_⟩⟩
    have ey : ys = srt (c.map (·.1)) := srt_eq lm perm so
    have hw : wordsW (srt (c.map (·.1))) (fun nm x => chB ((c.lookup nm).getD []) x) g = ys.findSome? (fun n => if chB ((c.lookup n).getD []) (atG g n) = true then none else some [Sum.inr n]) := by
      rw [ey]; unfold wordsW; rw [if_pos hn]
    have e2 : Ex H (upd (upd H1 a (.lst (es.map fun kv => kV kv.1))) b (.lst (ys.map V.str))) := e1.trans ((Ex.new ha).trans (Ex.new hb))
    have hb2 : (upd (upd H1 a (.lst (es.map fun kv => kV kv.1))) b (.lst (ys.map V.str))) b = some (.lst (ys.map V.str)) := upd_same
    generalize (upd (upd H1 a (.lst (es.map fun kv => kV kv.1))) b (.lst (ys.map V.str))) = H2 at e2 hb2 ⊢
    refine ⟨b, rfl, ⟨_, Evl.sq_of hb2⟩, for_list (K := K) (a := b) (xs := ys.map V.str) (fun i σ' H' => ∃ o, σ' = [some v, some (.ref ch), some pl, o] ∧ Ex H2 H' ∧ ∀ y ∈ ys.take i, chB ((c.lookup y).getD []) (atG g y) = true) ⟨_, rfl, Ex.refl _, fun y h => nomatch h⟩ (fun i σ' H' _ ⟨_, _, e, _⟩ => Evl.sq_of (e _ _ hb2)) (fun i x σ' H' hx ⟨o, eσ, e, hok⟩ => ?_) fun σ' H' ⟨_, _, e, hok⟩ => k.1 ?_ H' (e2.trans e)⟩
    · subst eσ
      rw [List.getElem?_map] at hx
      cases hy : ys[i]? with
      | none => rw [hy] at hx; cases hx
      | some y =>
      rw [hy] at hx
      cases hx
      have ym := List.mem_of_getElem? hy
      obtain ⟨xs, hlk, hmem⟩ := lk_mem (perm.mem_iff.mp ym)
      obtain ⟨ve, hve, t, rfl, ht⟩ := pair_lkV (F := fun x v => ∃ t, v = .ref t ∧ H t = some (.tup x)) pr hlk
      obtain ⟨dv, des, vd, n', rfl, hdv, hvd, rfl, hrd⟩ := atg hv hn (ey ▸ ym)
      have e3 := e2.trans e
      refine gname_go ?_
      refine Evl.s_when (b := !chB xs (atG g y)) (Evl.et_not (Evl.et_B (spB_ev (Evl.ea_cons (ev_get (Evl.ev_var rfl) (Evl.ev_var rfl) (.inl (e3 _ _ hdv)) hvd) (Evl.ea_cons (ev_get (Evl.ev_var rfl) (Evl.ev_var rfl) (.inl (e3 _ _ hes)) hve) Evl.ea_nil)) fun H4 e4 => ⟨_, m, n', _, atG g y, t, xs, rfl, rp_ex (e3.trans e4) hrd, e4 _ _ (e3 _ _ ht), htx _ hmem, rfl⟩))) (fun hb H4 e4 => ?_) fun hb H4 e4 => ?_
      · have hc : chB ((c.lookup y).getD []) (atG g y) = false := by rw [hlk]; simpa using hb
        have hw2 := hw.trans (fs_take (i := i) (x := y) (p := [Sum.inr y]) (fun z hz => by rw [if_pos (hok z hz)]) hy (by rw [hc]; rfl))
        exact s_raiseP (pk := pk ++ [Sum.inr y]) (fun Q' q' => ev_plK (x := Sum.inr y) (Evl.ev_var rfl) (hpl.ex (e3.trans e4)) (by omega) (Evl.ev_var rfl) H4 (Ex.refl _) Q' fun v5 H5 e5 hp5 => by
          obtain ⟨pa, rfl, hpa, _⟩ := hp5
          exact q' pa H5 e5 hpa) fun H' t' d e' ht' hd => k.2 [Sum.inr y] hw2 H' t' d (e3.trans (e4.trans e')) ht' hd
      · have hc : chB ((c.lookup y).getD []) (atG g y) = true := by rw [hlk]; simpa using hb
        refine ⟨_, rfl, e.trans e4, fun z hz => ?_⟩
        rw [take_snocG hy] at hz
        rcases List.mem_append.mp hz with hz | hz
        · exact hok z hz
        · rw [List.mem_singleton.mp hz]; exact hc
    · rw [hw]
      refine fs_none fun y hy => ?_
      rw [List.length_map, List.take_of_length_le (Nat.le_refl _)] at hok
      rw [if_pos (hok y hy)]
end
end Pk

namespace Pk
open PySem PySem.Spec PyProof.Rows L2 Ssb
open Evl (Ex Ev EvT EvL EvA EvU)
/-! ### names of lists -/
theorem rows_mem {s : Sh} {r : Ro} (h : r ∈ rowsS s) : ∃ p ∈ s, r = (p.1, none, p.2.1) ∨ ∃ q ∈ p.2.2, r = (q.1, some p.1, q.2) := by
  obtain ⟨p, hp, hr⟩ := List.mem_flatMap.mp h
  refine ⟨p, hp, ?_⟩
  unfold rowsOf at hr
  rcases List.mem_cons.mp hr with e | hr
  · exact .inl e
  · obtain ⟨q, hq, e⟩ := List.mem_map.mp hr
    exact .inr ⟨q, hq, e.symm⟩
theorem row_out {s : Sh} {p : Str × Fl × List (Str × Fl)} (h : p ∈ s) : ((p.1, none, p.2.1) : Ro) ∈ rowsS s := List.mem_flatMap.mpr ⟨p, h, List.mem_cons_self⟩
theorem row_in {s : Sh} {p : Str × Fl × List (Str × Fl)} {q : Str × Fl} (h : p ∈ s) (hq : q ∈ p.2.2) : ((q.1, some p.1, q.2) : Ro) ∈ rowsS s := List.mem_flatMap.mpr ⟨p, h, List.mem_cons_of_mem _ (List.mem_map.mpr ⟨q, hq, rfl⟩)⟩
theorem nd_inj {α : Type} {l : List (Str × α)} (nd : (l.map (·.1)).Nodup) {x y : Str × α} (hx : x ∈ l) (hy : y ∈ l) (e : x.1 = y.1) : x = y := by
  have h1 := lk_of_mem (k := x.1) (x := x.2) nd hx
  have h2 := lk_of_mem (k := y.1) (x := y.2) nd hy
  rw [e, h2] at h1
  exact Prod.ext e (Option.some.inj h1).symm
theorem kids_cons (p : Str × Fl × List (Str × Fl)) (s : Sh) (par : Option Str) : kids (p :: s) par = ((rowsOf p).filter fun r => decide (r.2.1 = par)).map (·.1) ++ kids s par := by
  unfold kids
  show (((rowsOf p ++ rowsS s).filter _).map _) = _
  rw [List.filter_append, List.map_append]
theorem filt_in (nm : Str) (q : Option Str) (i : List (Str × Fl)) : ((i.map fun q => ((q.1, some nm, q.2) : Ro)).filter fun r => decide (r.2.1 = q)) = if q = some nm then (i.map fun q => ((q.1, some nm, q.2) : Ro)) else [] := by
  by_cases c : q = some nm
  · rw [if_pos c]
    refine List.filter_eq_self.mpr fun r hr => ?_
    obtain ⟨x, _, rfl⟩ := List.mem_map.mp hr
    exact decide_eq_true c.symm
  · rw [if_neg c]
    refine List.filter_eq_nil_iff.mpr fun r hr => ?_
    obtain ⟨x, _, rfl⟩ := List.mem_map.mp hr
    rw [decide_eq_false (fun z => c z.symm)]; exact Bool.false_ne_true
theorem kids_none : ∀ s : Sh, kids s none = s.map (·.1)
  | [] => rfl
  | p :: s => by
    rw [kids_cons, kids_none s]
    unfold rowsOf
    rw [List.filter_cons, if_pos (by exact decide_eq_true rfl), filt_in, if_neg (by exact fun h => nomatch h)]
    rfl
theorem kids_some : ∀ {s : Sh} {nm : Str}, (kids s (some nm)).length = ((s.filter fun p => decide (p.1 = nm)).map fun p => p.2.2.length).sum
  | [], _ => rfl
  | p :: s, nm => by
    rw [kids_cons, List.length_append, kids_some]
    unfold rowsOf
    rw [List.filter_cons, if_neg (by rw [decide_eq_false (by exact fun h => nomatch h)]; exact Bool.false_ne_true), filt_in, List.filter_cons]
    by_cases c : p.1 = nm
    · rw [if_pos (by rw [c]), if_pos (decide_eq_true c), List.map_cons, List.sum_cons, List.length_map, List.length_map]
    · rw [if_neg (fun h => c (Option.some.inj h).symm), if_neg (by rw [decide_eq_false c]; exact Bool.false_ne_true)]
      simp
theorem filt_one : ∀ {s : Sh} {p : Str × Fl × List (Str × Fl)}, (s.map (·.1)).Nodup → p ∈ s → (s.filter fun q => decide (q.1 = p.1)) = [p]
  | q :: s, p, nd, h => by
    rw [List.map_cons, List.nodup_cons] at nd
    rw [List.filter_cons]
    rcases List.mem_cons.mp h with e | h
    · subst e
      rw [if_pos (decide_eq_true rfl)]
      congr 1
      refine List.filter_eq_nil_iff.mpr fun x hx hd => nd.1 ?_
      rw [← of_decide_eq_true hd]
      exact List.mem_map.mpr ⟨x, hx, rfl⟩
    · have c : ¬ q.1 = p.1 := fun e => nd.1 (by rw [e]; exact List.mem_map.mpr ⟨p, h, rfl⟩)
      rw [if_neg (by rw [decide_eq_false c]; exact Bool.false_ne_true)]
      exact filt_one nd.2 h
def Under (s : Sh) (nm : Str) (i : List (Str × Fl)) : Prop := (kids s (some nm)).length = i.length ∧ ∀ r ∈ rowsS s, r.2.1 = some nm → ∃ q ∈ i, r = (q.1, some nm, q.2)
theorem under_out {s : Sh} (nd : (s.map (·.1)).Nodup) {p : Str × Fl × List (Str × Fl)} (h : p ∈ s) : Under s p.1 p.2.2 := by
  refine ⟨by rw [kids_some, filt_one nd h]; simp, fun r hr hp => ?_⟩
  obtain ⟨p', hp', e | ⟨q, hq, e⟩⟩ := rows_mem hr
  · rw [e] at hp; cases hp
  · rw [e] at hp
    have e2 : p'.1 = p.1 := Option.some.inj hp
    have := nd_inj nd hp' h e2
    subst this
    exact ⟨q, hq, e⟩
theorem under_in {s : Sh} (nd : ((rowsS s).map (·.1)).Nodup) {p : Str × Fl × List (Str × Fl)} {q : Str × Fl} (h : p ∈ s) (hq : q ∈ p.2.2) : Under s q.1 [] := by
  have no : ∀ p' ∈ s, p'.1 ≠ q.1 := fun p' hp' e => by
    have := nd_inj nd (row_out hp') (row_in h hq) e
    cases congrArg (fun r : Ro => r.2.1) this
  refine ⟨?_, fun r hr hp => ?_⟩
  · rw [kids_some, List.filter_eq_nil_iff.mpr fun x hx => by rw [decide_eq_false (no x hx)]; exact Bool.false_ne_true]
    rfl
  · obtain ⟨p', hp', e | ⟨q', hq', e⟩⟩ := rows_mem hr
    · rw [e] at hp; cases hp
    · rw [e] at hp
      exact absurd (Option.some.inj hp) (no p' hp')

theorem nd_outer {s : Sh} (h : okSh s) : (s.map (·.1)).Nodup := by
  have := h.2.1
  rw [← kids_none]
  unfold kids
  exact List.Sublist.nodup (List.Sublist.map _ List.filter_sublist) this
theorem kids_eq {s : Sh} {nm : Str} {i : List (Str × Fl)} (u : Under s nm i) (h : i.length ≤ 1) : kids s (some nm) = i.map (·.1) := by
  obtain ⟨h1, h2⟩ := u
  match i, h with
  | [], _ => exact List.eq_nil_of_length_eq_zero h1
  | [q], _ =>
    match hk : kids s (some nm), h1 with
    | [x], _ =>
      have hx : x ∈ kids s (some nm) := by rw [hk]; exact List.mem_cons_self
      obtain ⟨r, hr, hp, rfl⟩ := kids_mem hx
      obtain ⟨q', hq', e⟩ := h2 r hr hp
      rw [List.mem_singleton.mp hq'] at e
      rw [e]; rfl
/-- how deep below stands what may be asked -/
def dp (m : Nat) (r : Ro) : Prop := 1 ≤ m ∧ (r.2.1 = none → 2 ≤ m)
theorem rows_kind {s : Sh} (h : okSh s) {r : Ro} (hr : r ∈ rowsS s) : (∃ q ∈ s, r = (q.1, none, q.2.1)) ∨ ∃ q ∈ s, ∃ x ∈ q.2.2, r = (x.1, some q.1, x.2) := by
  obtain ⟨p, hp, e | ⟨q, hq, e⟩⟩ := rows_mem hr
  · exact .inl ⟨p, hp, e⟩
  · exact .inr ⟨p, hp, q, hq, e⟩
theorem kids_le {s : Sh} (h : okSh s) {r : Ro} (hr : r ∈ rowsS s) : (kids s (some r.1)).length ≤ 1 ∧ (r.2.1 ≠ none → kids s (some r.1) = []) := by
  rcases rows_kind h hr with ⟨q, hq, rfl⟩ | ⟨q, hq, x, hx, rfl⟩
  · refine ⟨?_, fun z => absurd rfl z⟩
    rw [(under_out (nd_outer h) hq).1]
    exact (h.2.2 q hq).2.2.1
  · have := (under_in h.2.1 hq hx).1
    have e : kids s (some x.1) = [] := List.eq_nil_of_length_eq_zero this
    exact ⟨by rw [e]; exact Nat.zero_le _, fun _ => e⟩
theorem kids_dp {s : Sh} (h : okSh s) {m : Nat} {r r' : Ro} (hr : r ∈ rowsS s) (hr' : r' ∈ rowsS s) (hp : r'.2.1 = some r.1) (d : dp (m + 1) r) : dp m r' := by
  by_cases c : r.2.1 = none
  · have := d.2 c
    exact ⟨by omega, fun z => by rw [hp] at z; cases z⟩
  · have e := (kids_le h hr).2 c
    have : r'.1 ∈ kids s (some r.1) := List.mem_map.mpr ⟨r', List.mem_filter.mpr ⟨hr', decide_eq_true hp⟩, rfl⟩
    rw [e] at this; cases this
end Pk

namespace Pk
open PySem PySem.Spec PyProof.Rows L2 Ssb
open Evl (Ex Ev EvT EvL EvA EvU)
section
variable {P : Program} {w : World} {K : PySem.W.Frag} {mg : Str → Option Value} {base : Heap} {C_Shape C_InvalidData C_InvalidShape C_StayError : Addr}
def spCrX (C CE : Addr) (m : Nat) : Sp := fun vs H Q E => ∃ (p : Addr) (v pl : V) (mm n : Nat) (S : Addr → Prop) (g : G) (fl : List Str) (s : Sh) (S' : Addr → Prop) (r : Ro) (pk : List Key), vs = [.ref p, .str r.1, v, pl] ∧ ShapeAt C H p fl s S' ∧ okSh s ∧ r ∈ rowsS s ∧ dp m r ∧ Rp H mm n S g v ∧ mm ≤ 8 ∧ PlK H pl pk ∧ pk.length + 4 * m ≤ 12 ∧ saysX CE (RW m s r.1 g) pk H Q E
def spClX (C CE : Addr) (m : Nat) : Sp := fun vs H Q E => ∃ (p na : Addr) (v pl : V) (mm n : Nat) (S : Addr → Prop) (g : G) (fl : List Str) (s : Sh) (S' : Addr → Prop) (par : Option Str) (pk : List Key), vs = [.ref p, v, .ref na, pl] ∧ ShapeAt C H p fl s S' ∧ okSh s ∧ (∀ r ∈ rowsS s, r.2.1 = par → dp m r) ∧ Rp H mm n S g v ∧ mm ≤ 8 ∧ H na = some (.lst ((srt (kids s par)).map V.str)) ∧ PlK H pl pk ∧ pk.length + 4 * m ≤ 11 ∧ saysX CE (listsW (RW m s) (srt (kids s par)) g) pk H Q E
theorem ok_check_listsX (T : Txt K mg C_Shape C_InvalidData C_InvalidShape C_StayError) (R : Prg K mg C_Shape C_InvalidData C_InvalidShape C_StayError) {m c : Nat} (G0 : ∃ f fd, FnX P w K mg base "check_rows" c ["shape", "name", "rows", "place"] (spCrX C_Shape C_InvalidData m) f fd) : ∃ f fd, FnX P w K mg base "check_lists" (c + 3) ["shape", "lists", "names", "place"] (spClX C_Shape C_InvalidData m) f fd := by
  obtain ⟨_, _, G_check_rows⟩ := G0
  obtain ⟨_, _, G_has_names⟩ := ok_has_namesG (P := P) (w := w) (base := base) T R
  obtain ⟨_, _, G_InvalidData, tI⟩ := ok_InvalidData_init (P := P) (w := w) (base := base) T R
  obtain ⟨f, fd, at_, F, kp⟩ := R.check_lists
  refine ⟨f, fd, F.okX sc_check_lists (fun vs H Q E h => ?_) (fun cdv A outer s H vs Q E hr h => ?_), at_, kp, F.binds (fun _ _ _ _ _ _ us hl => match us, hl with | [_, _, _, _], _ => rfl)⟩
  · obtain ⟨p, na, v, pl, mm, n, S, g, fl, s, S', par, pk, rfl, _⟩ := h; rfl
  · obtain ⟨p, na, v, pl, mm, n, S, g, fl, z, S', par, pk, rfl, hS, hz, hdp, hv, hm, hna, hpl, hk, k⟩ := h
    obtain ⟨r4, _⟩ := okSh_rows hz
    have l4 := kids_len (s := z) par
    have ls : (srt (kids z par)).length ≤ 4 := by rw [srt_perm.length_eq]; omega
    refine ⟨_, (pss_cons (ps_if (pt_not (pt_val (pcl G_has_names hr (pa_cons (pv 1) (pa_cons (pv 2) pa_nil))))) (pss_one (ps_raise rfl (takes_of rfl rfl rfl rfl) (pmk_oexE T.ox_InvalidData G_InvalidData tI hr T.at_InvalidData (pa_cons (pv 3) pa_nil)))) pss_nil)
  (pss_one (ps_for (passes_of rfl) rfl (show PI _ _ _ (iList K _) from pi_list (pv 2)) (pg_name (i := 4) sc_check_lists.nd rfl (Or.inl rfl))
    (pss_one (ps_expr (pclX G_check_rows (takes_of rfl rfl rfl rfl) hr (pa_cons (pv 0) (pa_cons (pv 4) (pa_cons (pe_dget (hu_of hr) (pv 1) (pv 4) (fun _ _ => rfl)) (pa_cons (pe_op (r := rCatT K) op_catT (pv 3) (pe_tup (pa_cons (pv 4) pa_nil))) pa_nil)))))))))), ?_⟩
    refine Evl.q_when (b := !hasN g (srt (kids z par))) (Evl.et_not (Evl.et_B (spB_ev (Evl.ea_cons (Evl.ev_var rfl) (Evl.ea_cons (Evl.ev_var rfl) Evl.ea_nil)) fun H1 e1 => ⟨v, mm, n, S, g, na, srt (kids z par), rfl, rp_ex e1 hv, Evl.sq_of (e1 _ _ hna), by omega, rfl⟩))) (fun hb H1 e1 => ?_) fun hb H1 e1 => ?_
    · have hw : listsW (RW m z) (srt (kids z par)) g = some [] := by
        unfold listsW; rw [if_neg (by simpa using hb)]
      obtain ⟨pa, rfl, hpa, _⟩ := hpl
      exact s_raiseP (pk := pk) (fun Q' q' => ⟨_, rfl, q' pa H1 (Ex.refl _) (e1 _ _ hpa)⟩) fun H' t d e' ht hd => k.2 [] hw H' t d (e1.trans e') (by rw [List.append_nil]; exact ht) hd
    have hn : hasN g (srt (kids z par)) = true := by simpa using hb
    have hw : listsW (RW m z) (srt (kids z par)) g = (srt (kids z par)).findSome? (fun nm => (RW m z nm (atG g nm)).map (Sum.inr nm :: ·)) := by
      unfold listsW; rw [if_pos hn]
    refine ⟨_, rfl, na, rfl, ⟨_, Evl.sq_of (e1 _ _ hna)⟩, for_list (K := K) (a := na) (xs := (srt (kids z par)).map V.str) (fun i σ' H' => ∃ o, σ' = [some (.ref p), some v, some (.ref na), some pl, o] ∧ Ex H H' ∧ ∀ y ∈ (srt (kids z par)).take i, RW m z y (atG g y) = none) ⟨_, rfl, e1, fun y h => nomatch h⟩ (fun i σ' H' _ ⟨_, _, e, _⟩ => Evl.sq_of (e _ _ hna)) (fun i x σ' H' hx ⟨o, eσ, e, hok⟩ => ?_) fun σ' H' ⟨_, _, e, hok⟩ => k.1 ?_ H' e⟩
    · subst eσ
      rw [List.getElem?_map] at hx
      cases hy : (srt (kids z par))[i]? with
      | none => rw [hy] at hx; cases hx
      | some y =>
      rw [hy] at hx
      cases hx
      have ym := List.mem_of_getElem? hy
      obtain ⟨r, hr1, hr2, rfl⟩ := kids_mem (srt_perm.mem_iff.mp ym)
      obtain ⟨da, es, vd, n', rfl, hda, hvd, rfl, hrd⟩ := atg hv hn ym
      refine gname_go ?_
      refine ⟨_, rfl, _, rfl, ?_⟩
      refine ev_get (Evl.ev_var rfl) (Evl.ev_var rfl) (.inl (e _ _ hda)) hvd _ (Ex.refl _) _ fun H2 e2 => ?_
      refine ev_plK (x := Sum.inr r.1) (Evl.ev_var rfl) (hpl.ex (e.trans e2)) (by omega) (Evl.ev_var rfl) _ (Ex.refl _) _ fun v3 H3 e3 hp3 => ?_
      have e4 := e.trans (e2.trans e3)
      refine ⟨p, vd, v3, mm, n', _, atG g r.1, fl, z, S', r, pk ++ [Sum.inr r.1], rfl, hS.ex e4, hz, hr1, hdp r hr1 hr2, rp_ex e4 hrd, hm, hp3, by rw [List.length_append, List.length_singleton]; omega, fun hno H5 e5 => ⟨_, rfl, e4.trans e5, fun y' hy' => ?_⟩, fun q hq H5 t d e5 ht hd => ?_⟩
      · rw [take_snocG hy] at hy'
        rcases List.mem_append.mp hy' with hy' | hy'
        · exact hok y' hy'
        · rw [List.mem_singleton.mp hy']; exact hno
      · have hw2 := hw.trans (fs_take (i := i) (x := r.1) (p := Sum.inr r.1 :: q) (fun y' hy' => by rw [hok y' hy']; rfl) hy (by rw [hq]; rfl))
        exact k.2 _ hw2 H5 t d (e4.trans e5) (by rw [ht, List.append_assoc]; rfl) hd
    · rw [hw]
      refine fs_none fun y hy => ?_
      rw [List.length_map, List.take_of_length_le (Nat.le_refl _)] at hok
      rw [hok y hy]; rfl
/-! ### a row -/
def spCxX (C CE : Addr) (m : Nat) : Sp := fun vs H Q E => ∃ (p er : Addr) (v pl : V) (mm n : Nat) (S : Addr → Prop) (g : G) (fl : List Str) (s : Sh) (S' : Addr → Prop) (r : Ro) (ids : List Int) (pk : List Key), vs = [.ref p, .str r.1, v, .ref er, pl] ∧ ShapeAt C H p fl s S' ∧ okSh s ∧ r ∈ rowsS s ∧ dp (m + 1) r ∧ Rp H mm n S g v ∧ mm ≤ 8 ∧ H er = some (.dK (idE ids)) ∧ PlK H pl pk ∧ pk.length + 4 * m ≤ 9 ∧
  saysX CE (rowA (fieldsOf s r.1) (RW m s) (srt (kids s (some r.1))) ids g) pk H Q E
theorem chB_fld {f : Fl} (hn : (f.map (·.1)).Nodup) {nm : Str} {g : G} : chB (((f.map fun p => (p.1, p.2.map V.str)).lookup nm).getD []) g = fldOk f nm g := by
  have hl : ((f.map fun p => (p.1, p.2.map V.str)).lookup nm).getD [] = ((f.lookup nm).getD []).map V.str := by
    clear hn
    induction f with
    | nil => rfl
    | cons a f ih =>
      rw [List.map_cons, lk_cons, lk_cons]
      by_cases c : nm = a.1
      · rw [if_pos c, if_pos c]; rfl
      · rw [if_neg c, if_neg c]; exact ih
  rw [hl]
  cases g with
  | str x =>
    show inV (.str x) (((f.lookup nm).getD []).map V.str) = ((f.lookup nm).getD []).contains x
    rw [Bool.eq_iff_iff, inV_strs, List.contains_iff_mem]
  | bl b =>
    show inV (.bl b) (((f.lookup nm).getD []).map V.str) = false
    unfold inV
    rw [List.any_eq_false]
    intro y hy
    obtain ⟨x, _, rfl⟩ := List.mem_map.mp hy
    simp [eqV]
  | _ => rfl
theorem idOk_eq {g : G} {ids : List Int} : (!intOk (atG g "id") 0 1000000 || decide (idOf g ∈ ids)) = !idOk (atG g "id") ids := by
  unfold intOk idOk idOf
  cases atG g "id" with
  | int i =>
    show (!(decide (0 ≤ i) && decide (i ≤ 1000000)) || decide (i ∈ ids)) = !((decide (0 ≤ i) && decide (i ≤ 1000000)) && !(decide (i ∈ ids)))
    generalize (decide (0 ≤ i) && decide (i ≤ 1000000)) = a
    generalize decide (i ∈ ids) = b
    cases a <;> cases b <;> rfl
  | _ => rfl
theorem ids_in {ids : List Int} {i : Int} : (valV (idE ids) (Sum.inl i : Key)).isSome = decide (i ∈ ids) := by
  induction ids with
  | nil => rfl
  | cons j ids ih =>
    show (valV ((Sum.inl j, V.bl true) :: idE ids) _).isSome = _
    rw [vV_cons]
    by_cases c : j = i
    · rw [if_pos (by rw [c])]; simp [c]
    · rw [if_neg (fun z => c (Sum.inl.inj z)), ih]
      congr 1
      exact propext ⟨fun h => List.mem_cons_of_mem _ h, fun h => (List.mem_cons.mp h).resolve_left fun z => c z.symm⟩
theorem ok_check_rowX (T : Txt K mg C_Shape C_InvalidData C_InvalidShape C_StayError) (R : Prg K mg C_Shape C_InvalidData C_InvalidShape C_StayError) {m c : Nat} (hc : 3 ≤ c) (G0 : ∃ f fd, FnX P w K mg base "check_lists" c ["shape", "lists", "names", "place"] (spClX C_Shape C_InvalidData m) f fd) : ∃ f fd, FnX P w K mg base "check_row" (c + 1) ["shape", "name", "row", "earlier", "here"] (spCxX C_Shape C_InvalidData m) f fd := by
  obtain ⟨_, _, G_check_lists⟩ := G0
  obtain ⟨_, _, G_has_names⟩ := ok_has_namesG (P := P) (w := w) (base := base) T R
  obtain ⟨_, _, G_is_integer⟩ := ok_is_integerG (P := P) (w := w) (base := base) T R
  obtain ⟨_, _, G_check_words⟩ := ok_check_wordsX (P := P) (w := w) (base := base) T R
  obtain ⟨_, _, G_Shape_fields⟩ := ok_Shape_fields (P := P) (w := w) (base := base) T R
  obtain ⟨_, _, G_Shape_inner⟩ := ok_Shape_inner (P := P) (w := w) (base := base) T R
  obtain ⟨_, _, G_InvalidData, tI⟩ := ok_InvalidData_init (P := P) (w := w) (base := base) T R
  obtain ⟨tG, gG⟩ := T.g_GREATEST_ID
  obtain ⟨f, fd, at_, F, kp⟩ := R.check_row
  refine ⟨f, fd, F.okX sc_check_row (fun vs H Q E h => ?_) (fun cdv A outer s H vs Q E hr h => ?_), at_, kp, F.binds (fun _ _ _ _ _ _ us hl => match us, hl with | [_, _, _, _, _], _ => rfl)⟩
  · obtain ⟨p, er, v, pl, mm, n, S, g, fl, s, S', r, ids, pk, rfl, _⟩ := h; rfl
  · obtain ⟨p, er, v, pl, mm, n, S, g, fl, z, S', r, ids, pk, rfl, hS, hz, hr1, hd, hv, hm, her, hpl, hk, k⟩ := h
    obtain ⟨dx, ft, tb, hp, hft, htb⟩ := _root_.id hS
    obtain ⟨_, rok⟩ := okSh_rows hz
    refine ⟨_, (pss_cons (ps_if (pt_not (pt_val (pcl G_has_names hr (pa_cons (pv 2) (pa_cons (pe_lst (pa_cons pe_str (pa_cons pe_str (pa_cons pe_str pa_nil)))) pa_nil))))) (pss_one (ps_raise rfl (takes_of rfl rfl rfl rfl) (pmk_oexE T.ox_InvalidData G_InvalidData tI hr T.at_InvalidData (pa_cons (pv 4) pa_nil)))) pss_nil)
  (pss_cons (ps_if (PW.pt (pw_or (pt_not (pt_val (pcl G_is_integer hr (pa_cons (pe_dget (hu_of hr) (pv 2) pe_str (fun _ _ => rfl)) (pa_cons pe_int (pa_cons (pe_glob (v := .int 1000000) rfl gG ⟨_, rfl⟩) pa_nil)))))) (pw_or1 (pt_cmp (pc_din (hu_of hr) (pe_dget (hu_of hr) (pv 2) pe_str (fun _ _ => rfl)) (pv 3)))))) (pss_one (ps_raise rfl (takes_of rfl rfl rfl rfl) (pmk_oexE T.ox_InvalidData G_InvalidData tI hr T.at_InvalidData (pa_cons (pe_op (r := rCatT K) op_catT (pv 4) (pe_tup (pa_cons pe_str pa_nil))) pa_nil)))) pss_nil)
  (pss_cons (ps_expr (pclX G_check_words (takes_of rfl rfl rfl rfl) hr (pa_cons (pe_dget (hu_of hr) (pv 2) pe_str (fun _ _ => rfl)) (pa_cons (pmt (pv 0) T.cl_Shape G_Shape_fields hr (pa_cons (pv 1) pa_nil)) (pa_cons (pe_op (r := rCatT K) op_catT (pv 4) (pe_tup (pa_cons pe_str pa_nil))) pa_nil)))))
  (pss_one (ps_expr (pclX G_check_lists (takes_of rfl rfl rfl rfl) hr (pa_cons (pv 0) (pa_cons (pe_dget (hu_of hr) (pv 2) pe_str (fun _ _ => rfl)) (pa_cons (pmt (pv 0) T.cl_Shape G_Shape_inner hr (pa_cons (pv 1) pa_nil)) (pa_cons (pe_op (r := rCatT K) op_catT (pv 4) (pe_tup (pa_cons pe_str pa_nil))) pa_nil)))))))))), ?_⟩
    refine Evl.q_when (b := !hasN g ["id", "fields", "lists"]) (Evl.et_not (Evl.et_B (ev_fnL (Evl.ev_var rfl) (Evl.el_lst (Evl.ea_cons Evl.ev_c (Evl.ea_cons Evl.ev_c (Evl.ea_cons Evl.ev_c Evl.ea_nil))) (by show 3 ≤ 100000; decide)) fun a H4 e4 ha Q q => ⟨_, ⟨_, mm, n, S, g, a, ["id", "fields", "lists"], rfl, rp_ex e4 hv, Evl.sq_of ha, by show 3 ≤ 1000; decide, rfl⟩, q⟩))) (fun hb H1 e1 => ?_) fun hb H1 e1 => ?_
    · have hw : rowA (fieldsOf z r.1) (RW m z) (srt (kids z (some r.1))) ids g = some [] := by
        unfold rowA rowW; rw [if_neg (by simpa using hb)]
      obtain ⟨pa, rfl, hpa, _⟩ := hpl
      exact s_raiseP (pk := pk) (fun Q' q' => ⟨_, rfl, q' pa H1 (Ex.refl _) (e1 _ _ hpa)⟩) fun H' t d e' ht hd => k.2 [] hw H' t d (e1.trans e') (by rw [List.append_nil]; exact ht) hd
    have hn : hasN g ["id", "fields", "lists"] = true := by simpa using hb
    obtain ⟨dv, des, vi, n', rfl, hdv, hvi, rfl, hri⟩ := atg hv hn (nm := "id") (by decide)
    obtain ⟨dv2, des2, vf, n2, e2v, hdv2, hvf, en2, hrf⟩ := atg hv hn (nm := "fields") (by decide)
    cases e2v
    rw [hdv] at hdv2; cases hdv2
    obtain rfl : n' = n2 := by omega
    obtain ⟨dv3, des3, vl, n3, e3v, hdv3, hvl, en3, hrl⟩ := atg hv hn (nm := "lists") (by decide)
    cases e3v
    rw [hdv] at hdv3; cases hdv3
    obtain rfl : n' = n3 := by omega
    refine Evl.q_when (b := !intOk (atG g "id") 0 1000000 || decide (idOf g ∈ ids)) (Evl.et_or (Evl.et_not (Evl.et_B (spB_ev (Evl.ea_cons (ev_get (Evl.ev_var rfl) Evl.ev_c (.inl (e1 _ _ hdv)) hvi) (Evl.ea_cons Evl.ev_c (Evl.ea_cons Evl.ev_c Evl.ea_nil))) fun H2 e2 => ⟨vi, mm, n', _, atG g "id", 0, 1000000, rfl, rp_ex (e1.trans e2) hri, rfl⟩))) fun hi => Evl.et_test fun H2 e2 Q' q' => ?_) (fun hb H2 e2 => ?_) fun hb H2 e2 => ?_
    · obtain ⟨i, hi2⟩ : ∃ i, atG g "id" = .int i := by
        cases hh : atG g "id" with
        | int i => exact ⟨i, rfl⟩
        | _ => rw [hh] at hi; cases hi
      have ei : idOf g = i := by unfold idOf; rw [hi2]
      rw [hi2] at hri
      obtain ⟨n', rfl⟩ := rp_pos hri
      have evi : vi = .int i := hri
      subst evi
      refine ev_get (Evl.ev_var rfl) Evl.ev_c (.inl (e1 _ _ hdv)) hvi H2 e2 _ fun H3 e3 => ⟨_, rfl, er, _, rfl, .inl ⟨idE ids, Sum.inl i, .inl ((e1.trans (e2.trans e3)) _ _ her), rfl, rfl⟩, ?_⟩
      rw [ids_in, ← ei]
      exact q' H3 e3
    · rw [idOk_eq] at hb
      have hb : idOk (atG g "id") ids = false := by simpa using hb
      have hw : rowA (fieldsOf z r.1) (RW m z) (srt (kids z (some r.1))) ids g = some [Sum.inr ("id" : Str)] := by
        unfold rowA rowW; rw [if_pos hn, if_neg (by rw [hb]; exact fun h => nomatch h)]
      exact s_raiseP (pk := pk ++ [Sum.inr ("id" : Str)]) (fun Q' q' => ev_plK (x := Sum.inr ("id" : Str)) (Evl.ev_var rfl) (hpl.ex (e1.trans e2)) (by omega) Evl.ev_c H2 (Ex.refl _) Q' fun v5 H5 e5 hp5 => by
        obtain ⟨pa, rfl, hpa, _⟩ := hp5
        exact q' pa H5 e5 hpa) fun H' t' d e' ht' hd => k.2 _ hw H' t' d (e1.trans (e2.trans e')) ht' hd
    rw [idOk_eq] at hb
    have hio : idOk (atG g "id") ids = true := by simpa using hb
    have e02 := e1.trans e2
    have rw1 : rowW (fieldsOf z r.1) ids g = (wordsW (srt ((fieldsOf z r.1).map (·.1))) (fldOk (fieldsOf z r.1)) (atG g "fields")).map (Sum.inr ("fields" : Str) :: ·) := by
      unfold rowW; rw [if_pos hn, if_pos hio]
    have fE := fieldsOf_eq hz.2.1 hr1
    have okf := (rok r hr1).2
    -- check_words
    refine ev_get (Evl.ev_var rfl) Evl.ev_c (.inl (e02 _ _ hdv)) hvf _ (Ex.refl _) _ fun H3 e3 => ?_
    have e03 := e02.trans e3
    refine ⟨_, rfl, p, dx, _, rfl, e03 _ _ hp, shF_no _ _ (by decide +kernel) (by decide +kernel), _, rfl, p, fl, z, S', r, rfl, hS.ex e03, hz, hr1, fun H4 q4 e4 hq4 => ?_⟩
    have e04 := e03.trans e4
    refine ev_plK (x := Sum.inr ("fields" : Str)) (Evl.ev_var rfl) (hpl.ex e04) (by omega) Evl.ev_c _ (Ex.refl _) _ fun v5 H5 e5 hp5 => ?_
    have e05 := e04.trans e5
    have kk : ((r.2.2.map fun p => (p.1, p.2.map V.str)).map (·.1)) = r.2.2.map (·.1) := by rw [List.map_map]; rfl
    have eqw : wordsW (srt ((r.2.2.map fun p => (p.1, p.2.map V.str)).map (·.1))) (fun nm x => chB (((r.2.2.map fun p => (p.1, p.2.map V.str)).lookup nm).getD []) x) (atG g "fields") = wordsW (srt ((fieldsOf z r.1).map (·.1))) (fldOk (fieldsOf z r.1)) (atG g "fields") := by
      rw [kk, fE]
      congr 1
      funext nm x
      exact chB_fld okf.2.1
    refine ⟨vf, v5, q4, mm, n', _, atG g "fields", r.2.2.map fun p => (p.1, p.2.map V.str), pk ++ [Sum.inr ("fields" : Str)], rfl, rp_ex e05 hrf, flD_cho (rep_ex e5 hq4), by rw [kk]; exact okf.2.1, by rw [List.length_map]; exact okf.1, fun q hq x hx => ?_, hp5, by rw [List.length_append, List.length_singleton]; omega, fun hno H6 e6 => ?_, fun q hq H6 t d e6 ht hd => ?_⟩
    · obtain ⟨y, _, rfl⟩ := List.mem_map.mp hq
      obtain ⟨x', _, rfl⟩ := List.mem_map.mp hx
      exact .inl ⟨x', rfl⟩
    · rw [eqw] at hno
      have rw2 : rowW (fieldsOf z r.1) ids g = none := by rw [rw1, hno]; rfl
      have hw : rowA (fieldsOf z r.1) (RW m z) (srt (kids z (some r.1))) ids g = (listsW (RW m z) (srt (kids z (some r.1))) (atG g "lists")).map (Sum.inr ("lists" : Str) :: ·) := by
        unfold rowA; rw [rw2]
      have e06 := e05.trans e6
      refine ⟨_, rfl, ?_⟩
      refine ev_get (Evl.ev_var rfl) Evl.ev_c (.inl (e06 _ _ hdv)) hvl _ (Ex.refl _) _ fun H7 e7 => ?_
      have e07 := e06.trans e7
      refine ⟨_, rfl, p, dx, _, rfl, e07 _ _ hp, shF_no _ _ (by decide +kernel) (by decide +kernel), _, rfl, p, fl, z, S', r.1, rfl, hS.ex e07, hz, List.mem_map.mpr ⟨r, hr1, rfl⟩, fun H8 q8 nms e8 nq8 hq8 perm so => ?_⟩
      have e08 := e07.trans e8
      have enm : nms = srt (kids z (some r.1)) := srt_eq (by have := (kids_le hz hr1).1; omega) perm so
      refine ev_plK (x := Sum.inr ("lists" : Str)) (Evl.ev_var rfl) (hpl.ex e08) (by omega) Evl.ev_c _ (Ex.refl _) _ fun v9 H9 e9 hp9 => ?_
      have e09 := e08.trans e9
      refine ⟨p, q8, vl, v9, mm, n', _, atG g "lists", fl, z, S', some r.1, pk ++ [Sum.inr ("lists" : Str)], rfl, hS.ex e09, hz, fun r' hr' hp' => kids_dp hz hr1 hr' hp' hd, rp_ex e09 hrl, hm, by rw [← enm]; exact e9 _ _ hq8, hp9, by rw [List.length_append, List.length_singleton]; omega, fun hno2 H10 e10 => k.1 (by rw [hw, hno2]; rfl) H10 (e09.trans e10), fun q hq H10 t d e10 ht hd => k.2 (Sum.inr ("lists" : Str) :: q) (by rw [hw, hq]; rfl) H10 t d (e09.trans e10) (by rw [ht, List.append_assoc]; rfl) hd⟩
    · rw [eqw] at hq
      have hw : rowA (fieldsOf z r.1) (RW m z) (srt (kids z (some r.1))) ids g = some (Sum.inr ("fields" : Str) :: q) := by
        unfold rowA; rw [rw1, hq]; rfl
      exact k.2 _ hw H6 t d (e05.trans e6) (by rw [ht, List.append_assoc]; rfl) hd
end
end Pk

namespace Pk
open PySem PySem.Spec PyProof.Rows L2 Ssb
open Evl (Ex Ev EvT EvL EvA EvU)
section
variable {P : Program} {w : World} {K : PySem.W.Frag} {mg : Str → Option Value} {base : Heap} {C_Shape C_InvalidData C_InvalidShape C_StayError : Addr}
/-- a row that is right has an id of its own -/
theorem rowA_id {f : Fl} {R : Str → G → Option (List Key)} {nms : List Str} {ids : List Int} {g : G} (h : rowA f R nms ids g = none) : hasN g ["id", "fields", "lists"] = true ∧ atG g "id" = .int (idOf g) ∧ idOf g ∉ ids := by
  unfold rowA at h
  cases c : rowW f ids g with
  | some p => rw [c] at h; cases h
  | none =>
    unfold rowW at c
    by_cases c1 : hasN g ["id", "fields", "lists"] = true
    · rw [if_pos c1] at c
      by_cases c2 : idOk (atG g "id") ids = true
      · refine ⟨c1, ?_⟩
        unfold idOf
        unfold idOk at c2
        cases hh : atG g "id" with
        | int i =>
          rw [hh] at c2
          simp only [Bool.and_eq_true, Bool.not_eq_true', decide_eq_false_iff_not] at c2
          exact ⟨rfl, c2.2⟩
        | _ => rw [hh] at c2; cases c2
      · rw [if_neg c2] at c; cases c
    · rw [if_neg c1] at c; cases c
theorem ok_check_rowsX0 (T : Txt K mg C_Shape C_InvalidData C_InvalidShape C_StayError) (R : Prg K mg C_Shape C_InvalidData C_InvalidShape C_StayError) : ∃ f fd, FnX P w K mg base "check_rows" 1 ["shape", "name", "rows", "place"] (spCrX C_Shape C_InvalidData 0) f fd := by
  obtain ⟨f, fd, at_, F, kp⟩ := R.check_rows
  refine ⟨f, fd, F.okX sc_check_rows (fun vs H Q E h => ?_) (fun cdv A outer s H vs Q E hr h => ?_), at_, kp, F.binds (fun _ _ _ _ _ _ us hl => match us, hl with | [_, _, _, _], _ => rfl)⟩
  · obtain ⟨p, v, pl, mm, n, S, g, fl, s, S', r, pk, rfl, _⟩ := h; rfl
  · obtain ⟨p, v, pl, mm, n, S, g, fl, s, S', r, pk, rfl, _, _, _, h, _⟩ := h; exact absurd h.1 (by decide)
theorem ok_check_rowsX (T : Txt K mg C_Shape C_InvalidData C_InvalidShape C_StayError) (R : Prg K mg C_Shape C_InvalidData C_InvalidShape C_StayError) {m c : Nat} (hc : 3 ≤ c) (G0 : ∃ f fd, FnX P w K mg base "check_row" c ["shape", "name", "row", "earlier", "here"] (spCxX C_Shape C_InvalidData m) f fd) : ∃ f fd, FnX P w K mg base "check_rows" (c + 1) ["shape", "name", "rows", "place"] (spCrX C_Shape C_InvalidData (m + 1)) f fd := by
  obtain ⟨_, _, G_check_row⟩ := G0
  obtain ⟨_, _, G_InvalidData, tI⟩ := ok_InvalidData_init (P := P) (w := w) (base := base) T R
  obtain ⟨f, fd, at_, F, kp⟩ := R.check_rows
  refine ⟨f, fd, F.okX sc_check_rows (fun vs H Q E h => ?_) (fun cdv A outer s H vs Q E hr h => ?_), at_, kp, F.binds (fun _ _ _ _ _ _ us hl => match us, hl with | [_, _, _, _], _ => rfl)⟩
  · obtain ⟨p, v, pl, mm, n, S, g, fl, s, S', r, pk, rfl, _⟩ := h; rfl
  · obtain ⟨p, v, pl, mm, n, S, g, fl, z, S', r, pk, rfl, hS, hz, hr1, hd, hv, hm, hpl, hk, k⟩ := h
    refine ⟨_, (pss_cons (ps_if (pt_not (pt_val (pe_callB (r := rIsi K) call_isi (by rfl) T.isinstance (by decide +kernel) (pa_cons (pv 2) (pa_cons (pe_bltn (v := .ty "list") (by rfl) T.list boot_list rfl) pa_nil))))) (pss_one (ps_raise rfl (takes_of rfl rfl rfl rfl) (pmk_oexE T.ox_InvalidData G_InvalidData tI hr T.at_InvalidData (pa_cons (pv 3) pa_nil)))) pss_nil)
  (pss_cons (ps_set (i := 4) sc_check_rows.nd rfl (Or.inl rfl) pe_dnewK)
  (pss_one (ps_for (passes_of rfl) rfl (pi_enum (by rfl) T.enumerate (pa_cons (pv 2) pa_nil)) (show PG _ _ (gTup K 2 _) from pg_tup (n := 2) rfl (pgs_cons (pg_name (i := 5) sc_check_rows.nd rfl (Or.inl rfl)) (pgs_cons (pg_name (i := 6) sc_check_rows.nd rfl (Or.inl rfl)) pgs_nil)))
    (pss_cons (ps_expr (pclX G_check_row (takes_of rfl rfl rfl rfl) hr (pa_cons (pv 0) (pa_cons (pv 1) (pa_cons (pv 6) (pa_cons (pv 4) (pa_cons (pe_op (r := rCatT K) op_catT (pv 3) (pe_tup (pa_cons (pv 5) pa_nil))) pa_nil)))))))
  (pss_one (ps_dput (hu_of hr) (pv 4) (pe_dget (hu_of hr) (pv 6) pe_str (fun _ _ => rfl)) pe_bl rfl))))))), ?_⟩
    refine Evl.q_when (b := !isLstG g) (Evl.et_not (Evl.et_B (ev_isC (Evl.ev_var rfl) hv (isK_lst g)))) (fun hb H1 e1 => ?_) fun hb H1 e1 => ?_
    · have hw : RW (m + 1) z r.1 g = some [] := by
        show rowsW _ g = _
        cases g <;> first | rfl | (simp [isLstG] at hb)
      obtain ⟨pa, rfl, hpa, _⟩ := hpl
      exact s_raiseP (pk := pk) (fun Q' q' => ⟨_, rfl, q' pa H1 (Ex.refl _) (e1 _ _ hpa)⟩) fun H' t d e' ht hd => k.2 [] hw H' t d (e1.trans e') (by rw [List.append_nil]; exact ht) hd
    obtain ⟨rs, rfl⟩ : ∃ rs, g = .lst rs := by
      cases g with
      | lst l => exact ⟨l, rfl⟩
      | _ => simp [isLstG] at hb
    obtain ⟨n, rfl⟩ := rp_pos hv
    obtain ⟨ra, xs, rfl, _, hra, lrs, pp⟩ := _root_.id hv
    have lx := pair_len pp
    have hw0 : RW (m + 1) z r.1 (.lst rs) = rowsF (rowA (fieldsOf z r.1) (RW m z) (srt (kids z (some r.1)))) rs 0 [] := rfl
    rw [hw0] at k
    generalize hA : rowA (fieldsOf z r.1) (RW m z) (srt (kids z (some r.1))) = A at k
    intro er her
    have e2 : Ex H1 (upd H1 er (.dK [])) := Ex.new her
    refine ⟨_, rfl, ra, xs, rfl, Evl.sq_of (e2 _ _ (e1 _ _ hra)), for_it walk_enum (fun i σ' H' => (∃ o5 o6, σ' = [some (.ref p), some (.str r.1), some (.ref ra), some pl, some (.ref er), o5, o6]) ∧ Ex H1 H' ∧ H' er = some (.dK (idE ((rs.take i).map idOf))) ∧ rowsF A rs 0 [] = rowsF A (rs.drop i) i ((rs.take i).map idOf)) ⟨⟨_, _, rfl⟩, e2, upd_same, rfl⟩ (fun i σ' H' _ pv => Evl.sq_of (pv.2.1 _ _ (e1 _ _ hra))) (fun i x σ' H' H'' hi pv y => ?_) fun σ' H' pv => k.1 ?_ H' (e1.trans pv.2.1)⟩
    · obtain ⟨⟨o5, o6, rfl⟩, e3, hes, hF⟩ := pv
      obtain ⟨tp, x1, x2, rfl, ht, rfl, e, hx2⟩ := y
      cases e
      obtain ⟨row, hrow, hrr⟩ := pair_back pp hx2
      have e4 : Ex H1 (upd H' tp (.tup [.int (i : Nat), x2])) := e3.trans (Ex.new ht)
      have hes4 : (upd H' tp (.tup [.int (i : Nat), x2])) er = some (.dK (idE ((rs.take i).map idOf))) := (Ex.new ht) _ _ hes
      refine ⟨tp, _, rfl, Evl.st_of upd_same, rfl, _, _, rfl, _, _, rfl, rfl, ?_⟩
      generalize (upd H' tp (.tup [.int (i : Nat), x2])) = H4 at e4 hes4 ⊢
      have e04 := e1.trans e4
      rw [rowsF_drop hrow] at hF
      refine ⟨_, rfl, _, rfl, _, rfl, _, rfl, ?_⟩
      refine ev_plK (x := Sum.inl (i : Int)) (Evl.ev_var rfl) (hpl.ex e04) (by omega) (Evl.ev_var rfl) _ (Ex.refl _) _ fun v5 H5 e5 hp5 => ?_
      have e05 := e04.trans e5
      refine ⟨p, er, x2, v5, mm, n, _, row, fl, z, S', r, (rs.take i).map idOf, pk ++ [Sum.inl (i : Int)], rfl, hS.ex e05, hz, hr1, hd, rp_ex e05 hrr, hm, e5 _ _ hes4, hp5, by rw [List.length_append, List.length_singleton]; omega, ?_⟩
      rw [hA]
      refine ⟨fun hno H6 e6 => ?_, fun q hq H6 t d e6 ht hd => k.2 (Sum.inl (i : Int) :: q) (by rw [hF, hq]) H6 t d (e05.trans e6) (by rw [ht, List.append_assoc]; rfl) hd⟩
      rw [hno] at hF
      have e06 := e05.trans e6
      rw [← hA] at hno
      obtain ⟨hn, hid, nid⟩ := rowA_id hno
      obtain ⟨rv, res, vi, n', rfl, hrv, hvi, rfl, hri⟩ := atg hrr hn (nm := "id") (by decide)
      rw [hid] at hri
      obtain ⟨n', rfl⟩ := rp_pos hri
      have evi : vi = .int (idOf row) := hri
      subst evi
      refine ⟨_, rfl, ?_⟩
      refine ev_get (Evl.ev_var rfl) Evl.ev_c (.inl (e06 _ _ hrv)) hvi _ (Ex.refl _) _ fun H7 e7 => ?_
      have hes7 : H7 er = some (.dK (idE ((rs.take i).map idOf))) := e7 _ _ (e6 _ _ (e5 _ _ hes4))
      have tk : (rs.take (i + 1)).map idOf = (rs.take i).map idOf ++ [idOf row] := by rw [take_snocG hrow, List.map_append]; rfl
      refine ⟨er, _, rfl, .inl ⟨idE ((rs.take i).map idOf), Sum.inl (idOf row), hes7, rfl, ?_, rfl⟩, ⟨_, _, rfl⟩, ?_, ?_, by rw [tk]; exact hF⟩
      · unfold idE; rw [List.length_map, List.length_map, List.length_take]; exact Evl.sz_lt (by omega)
      · exact Ex.mut (e4.trans (e5.trans (e6.trans e7))) her
      · rw [upd_same, putK_new _ (idE_no nid), tk]
        unfold idE; rw [List.map_append]; rfl
    · rw [pv.2.2.2, ← lx, List.drop_of_length_le (Nat.le_refl _)]
      rfl
/-- the whole tree of checks -/
theorem ok_check_listsX2 (T : Txt K mg C_Shape C_InvalidData C_InvalidShape C_StayError) (R : Prg K mg C_Shape C_InvalidData C_InvalidShape C_StayError) : ∃ f fd, FnX P w K mg base "check_lists" 14 ["shape", "lists", "names", "place"] (spClX C_Shape C_InvalidData 2) f fd :=
  ok_check_listsX T R (ok_check_rowsX T R (by decide) (ok_check_rowX T R (by decide) (ok_check_listsX T R (ok_check_rowsX T R (by decide) (ok_check_rowX T R (by decide) (ok_check_listsX T R (ok_check_rowsX0 T R)))))))
end
end Pk

namespace Pk
open PySem PySem.Spec PyProof.Rows L2 Ssb
open Evl (Ex Ev EvT EvL EvA EvU)
/-! ### the number of rows of any datum -/
def rN : Nat → G → Int
  | 0, _ => 0
  | m + 1, g => match g with
    | .dic l => match lkG l (Sum.inr ("lists" : Str)) with
      | some (.dic ls) => (ls.map fun p => match p.2 with
        | .lst rs => (rs.length : Int) + (rs.map (rN m)).sum
        | _ => 0).sum
      | _ => 0
    | _ => 0
def rL (m : Nat) : G → Int
  | .lst rs => (rs.length : Int) + (rs.map (rN m)).sum
  | _ => 0
/-- data or a row: so many lists at each level, no list longer than 8 -/
def wfB : List Nat → G → Prop
  | [], _ => False
  | c :: cs, g => ∃ l ls, g = .dic l ∧ lkG l (Sum.inr ("lists" : Str)) = some (.dic ls) ∧ ls.length ≤ c ∧ ∀ p ∈ ls, ∃ rs, p.2 = .lst rs ∧ rs.length ≤ 8 ∧ (c ≠ 0 → ∀ r ∈ rs, wfB cs r)
theorem rN_eq {m : Nat} {l ls : List KG} (h : lkG l (Sum.inr ("lists" : Str)) = some (.dic ls)) : rN (m + 1) (.dic l) = (ls.map fun p => rL m p.2).sum := by
  show (match lkG l (Sum.inr ("lists" : Str)) with | some (.dic ls) => _ | _ => (0 : Int)) = _
  rw [h]
  rfl
theorem sum_le {α : Type} {f : α → Int} {b : Int} : ∀ {l : List α}, (∀ x ∈ l, f x ≤ b) → (l.map f).sum ≤ (l.length : Int) * b
  | [], _ => by simp
  | x :: l, h => by
    have := sum_le (l := l) fun y hy => h y (List.mem_cons_of_mem _ hy)
    have h1 := h x List.mem_cons_self
    rw [List.map_cons, List.sum_cons, List.length_cons]
    have e : ((l.length + 1 : Nat) : Int) * b = (l.length : Int) * b + b := by rw [Int.natCast_add, Int.add_mul]; simp
    rw [e]; omega
def bdN : List Nat → Nat
  | [] => 0
  | c :: cs => c * (8 + 8 * bdN cs)
theorem rN_le : ∀ {cs : List Nat} {g : G}, wfB cs g → rN cs.length g ≤ (bdN cs : Int)
  | [], _, h => h.elim
  | c :: cs, g, h => by
    obtain ⟨l, ls, rfl, hl, hc, hp⟩ := h
    show rN (cs.length + 1) _ ≤ _
    rw [rN_eq hl]
    by_cases c0 : c = 0
    · subst c0
      have : ls = [] := List.eq_nil_of_length_eq_zero (by omega)
      subst this
      show (0 : Int) ≤ ((0 * _ : Nat) : Int)
      simp
    · have h1 : (ls.map fun p => rL cs.length p.2).sum ≤ (ls.length : Int) * ((8 + 8 * bdN cs : Nat) : Int) := sum_le fun p hp' => by
        obtain ⟨rs, e, h8, hr⟩ := hp p hp'
        rw [e]
        show (rs.length : Int) + (rs.map (rN cs.length)).sum ≤ _
        have := sum_le (l := rs) (f := rN cs.length) (b := (bdN cs : Int)) fun r hr' => rN_le (hr c0 r hr')
        have e2 : (rs.length : Int) * (bdN cs : Int) ≤ 8 * (bdN cs : Int) := Int.mul_le_mul_of_nonneg_right (by omega) (by omega)
        have e3 : ((8 + 8 * bdN cs : Nat) : Int) = 8 + 8 * (bdN cs : Int) := by simp
        rw [e3]; omega
      refine Int.le_trans h1 ?_
      show _ ≤ ((c * (8 + 8 * bdN cs) : Nat) : Int)
      have := Nat.mul_le_mul_right (8 + 8 * bdN cs) hc
      rw [← Int.natCast_mul]
      exact Int.ofNat_le.mpr this
/-- lists no longer than m, keys that are different -/
def szG (m : Nat) : Nat → G → Prop
  | n + 1, .lst l => l.length ≤ m ∧ ∀ x ∈ l, szG m n x
  | n + 1, .dic l => (l.map fun p : KG => p.1).Nodup ∧ ∀ p ∈ l, szG m n p.2
  | _ + 1, _ => True
  | 0, _ => False
theorem rp_sz {H : Hp} {m : Nat} : ∀ {n : Nat} {S : Addr → Prop} {g : G} {v : V}, Rp H m n S g v → szG m n g
  | 0, _, _, _, h => h.elim
  | n + 1, S, g, v, h => by
    cases g with
    | lst l =>
      obtain ⟨a, xs, _, _, _, hl, p⟩ := h
      refine ⟨hl, fun x hx => ?_⟩
      obtain ⟨i, hi, e⟩ := List.mem_iff_getElem.mp hx
      obtain ⟨b, _, r⟩ := pair_at p (i := i) (a := x) (by rw [← e]; exact List.getElem?_eq_getElem hi)
      exact rp_sz r
    | dic l =>
      obtain ⟨a, es, _, _, _, hl, ok, p⟩ := h
      refine ⟨ok.1, fun x hx => ?_⟩
      obtain ⟨i, hi, e⟩ := List.mem_iff_getElem.mp hx
      obtain ⟨b, _, r⟩ := pair_at p (i := i) (a := x) (by rw [← e]; exact List.getElem?_eq_getElem hi)
      exact rp_sz r.2
    | _ => trivial
theorem hasN_mem {l : List KG} {ns : List Str} (nd : (l.map fun p : KG => p.1).Nodup) (h : hasN (.dic l) ns = true) (nn : ns.Nodup) : l.length = ns.length ∧ ∀ p ∈ l, ∃ nm ∈ ns, p.1 = Sum.inr nm ∧ atG (.dic l) nm = p.2 := by
  have h : (decide (l.length = ns.length) && ns.all fun n => (lkG l (Sum.inr n)).isSome) = true := h
  rw [Bool.and_eq_true] at h
  have le : l.length = ns.length := of_decide_eq_true h.1
  have all := List.all_eq_true.mp h.2
  refine ⟨le, fun p hp => ?_⟩
  have sub : ∀ k ∈ ns.map (Sum.inr : Str → Key), k ∈ l.map fun p : KG => p.1 := fun k hk => by
    obtain ⟨nm, hm, rfl⟩ := List.mem_map.mp hk
    have := all nm hm
    cases c : lkG l (Sum.inr nm) with
    | none => rw [c] at this; cases this
    | some d => exact List.mem_map.mpr ⟨_, lkG_mem c, rfl⟩
  have ndn : (ns.map (Sum.inr : Str → Key)).Nodup := List.Pairwise.map _ (fun a b h z => h (Sum.inr.inj z)) nn
  have : p.1 ∈ ns.map (Sum.inr : Str → Key) := by
    refine Classical.byContradiction fun no => ?_
    have nd2 : (p.1 :: ns.map (Sum.inr : Str → Key)).Nodup := List.nodup_cons.mpr ⟨no, ndn⟩
    have := nd2.length_le_of_subset (l₂ := l.map fun p : KG => p.1) fun k hk => by
      rcases List.mem_cons.mp hk with rfl | hk
      · exact List.mem_map.mpr ⟨p, hp, rfl⟩
      · exact sub k hk
    rw [List.length_cons, List.length_map, List.length_map] at this
    omega
  obtain ⟨nm, hm, e⟩ := List.mem_map.mp this
  refine ⟨nm, hm, e.symm, ?_⟩
  have : lkG l (Sum.inr nm) = some p.2 := lkG_of nd (by rw [e]; exact hp)
  show ((lkG l (Sum.inr nm)).getD .non) = p.2
  rw [this]; rfl
theorem hasN_dic {g : G} {ns : List Str} (h : hasN g ns = true) : ∃ l, g = .dic l := by
  cases g with
  | dic l => exact ⟨l, rfl⟩
  | _ => cases h
theorem hasN_at {l : List KG} {ns : List Str} {nm : Str} (h : hasN (.dic l) ns = true) (hm : nm ∈ ns) : lkG l (Sum.inr nm) = some (atG (.dic l) nm) := by
  have h : (decide (l.length = ns.length) && ns.all fun n => (lkG l (Sum.inr n)).isSome) = true := h
  rw [Bool.and_eq_true] at h
  have := List.all_eq_true.mp h.2 nm hm
  show _ = some ((lkG l (Sum.inr nm)).getD .non)
  cases c : lkG l (Sum.inr nm) with
  | none => rw [c] at this; cases this
  | some d => rfl
theorem sz_at {m n : Nat} {l : List KG} {k : Key} {d : G} (h : szG m (n + 1) (.dic l)) (hl : lkG l k = some d) : szG m n d := h.2 _ (lkG_mem hl)
theorem rowsF_all {A : List Int → G → Option (List Key)} : ∀ {rs : List G} {k : Nat} {ids : List Int}, rowsF A rs k ids = none → ∀ r ∈ rs, ∃ ids', A ids' r = none
  | [], _, _, _, r, h => nomatch h
  | x :: rs, k, ids, h, r, hr => by
    unfold rowsF at h
    cases c : A ids x with
    | some p => rw [c] at h; cases h
    | none =>
      rw [c] at h
      rcases List.mem_cons.mp hr with rfl | hr
      · exact ⟨ids, c⟩
      · exact rowsF_all h r hr
/-- lists that are right -/
theorem lists_wf {R : Str → G → Option (List Key)} {nms : List Str} {m n c : Nat} {g : G} (h : listsW R nms g = none) (sz : szG m n g) (nn : nms.Nodup) (hc : nms.length ≤ c) (hm : m ≤ 8) {cs : List Nat}
    (hR : ∀ nm ∈ nms, ∀ (rs : List G) (ids : List Int) (x : G), R nm (.lst rs) = none → szG m (n - 2) x → x ∈ rs → wfB cs x) (hR0 : ∀ nm ∈ nms, ∀ x, R nm x = none → ∃ rs, x = .lst rs) :
    ∃ ls, g = .dic ls ∧ ls.length ≤ c ∧ ∀ p ∈ ls, ∃ rs, p.2 = .lst rs ∧ rs.length ≤ 8 ∧ ∀ r ∈ rs, wfB cs r := by
  unfold listsW at h
  by_cases hn : hasN g nms = true
  · rw [if_pos hn] at h
    obtain ⟨ls, rfl⟩ := hasN_dic hn
    obtain ⟨n, rfl⟩ : ∃ k, n = k + 1 := by
      cases n with
      | zero => exact sz.elim
      | succ n => exact ⟨n, rfl⟩
    obtain ⟨le, hp⟩ := hasN_mem sz.1 hn nn
    refine ⟨ls, rfl, by omega, fun p hpm => ?_⟩
    obtain ⟨nm, hnm, e1, e2⟩ := hp p hpm
    have hf := List.findSome?_eq_none_iff.mp h nm hnm
    rw [e2] at hf
    have hf : R nm p.2 = none := by
      cases c : R nm p.2 with
      | none => rfl
      | some q => rw [c] at hf; cases hf
    obtain ⟨rs, ers⟩ := hR0 nm hnm _ hf
    have szp := sz.2 p hpm
    rw [ers] at hf szp
    obtain ⟨n, rfl⟩ : ∃ k, n = k + 1 := by
      cases n with
      | zero => exact szp.elim
      | succ n => exact ⟨n, rfl⟩
    exact ⟨rs, ers, Nat.le_trans szp.1 hm, fun r hr => hR nm hnm rs [] r hf (szp.2 r hr) hr⟩
  · rw [if_neg hn] at h; cases h
/-- a row that is right -/
theorem row_lists {f : Fl} {R : Str → G → Option (List Key)} {nms : List Str} {ids : List Int} {g : G} (h : rowA f R nms ids g = none) : ∃ l, g = .dic l ∧ lkG l (Sum.inr ("lists" : Str)) = some (atG g "lists") ∧ listsW R nms (atG g "lists") = none := by
  have hn := (rowA_id h).1
  obtain ⟨l, rfl⟩ := hasN_dic hn
  refine ⟨l, rfl, hasN_at hn (by decide), ?_⟩
  unfold rowA at h
  cases c : rowW f ids (.dic l) with
  | some p => rw [c] at h; cases h
  | none =>
    rw [c] at h
    have h : (listsW R nms (atG (.dic l) "lists")).map (Sum.inr ("lists" : Str) :: ·) = none := h
    cases c2 : listsW R nms (atG (.dic l) "lists") with
    | none => rfl
    | some q => rw [c2] at h; cases h
theorem RW_lst {m : Nat} {s : Sh} {nm : Str} {x : G} (h : RW (m + 1) s nm x = none) : ∃ rs, x = .lst rs := by
  have h : rowsW _ x = none := h
  cases x with
  | lst l => exact ⟨l, rfl⟩
  | _ => cases h
theorem nd_kids {s : Sh} (h : okSh s) (par : Option Str) : (kids s par).Nodup := List.Sublist.nodup (List.Sublist.map _ List.filter_sublist) h.2.1
theorem data_wf {fl : List Str} {s : Sh} {m n : Nat} {g : G} (hs : okSh s) (sz : szG m n g) (hm : m ≤ 8) (h : dataW fl s g = none) : wfB [2, 1, 0] g := by
  unfold dataW at h
  by_cases hn : hasN g ["flags", "lists"] = true
  · rw [if_pos hn] at h
    obtain ⟨l, rfl⟩ := hasN_dic hn
    have h : listsW (RW 2 s) (srt (kids s none)) (atG (.dic l) "lists") = none := by
      cases c : wordsW (srt fl) (fun _ x => isBlG x) (atG (.dic l) "flags") with
      | some p => rw [c] at h; cases h
      | none =>
        rw [c] at h
        have h : (listsW (RW 2 s) (srt (kids s none)) (atG (.dic l) "lists")).map (Sum.inr ("lists" : Str) :: ·) = none := h
        cases c2 : listsW (RW 2 s) (srt (kids s none)) (atG (.dic l) "lists") with
        | none => rfl
        | some q => rw [c2] at h; cases h
    have hl := hasN_at hn (nm := "lists") (by decide)
    obtain ⟨n, rfl⟩ : ∃ k, n = k + 1 := by
      cases n with
      | zero => exact sz.elim
      | succ n => exact ⟨n, rfl⟩
    have szl := sz_at sz hl
    have inner : ∀ nm ∈ srt (kids s none), ∀ (rs : List G) (ids : List Int) (x : G), RW 2 s nm (.lst rs) = none → szG m (n - 2) x → x ∈ rs → wfB [1, 0] x := fun nm hnm rs ids x hR hx hmem => by
      obtain ⟨r, hr1, hr2, rfl⟩ := kids_mem (srt_perm.mem_iff.mp hnm)
      have hR : rowsF (rowA (fieldsOf s r.1) (RW 1 s) (srt (kids s (some r.1)))) rs 0 [] = none := hR
      obtain ⟨ids', ha⟩ := rowsF_all hR x hmem
      obtain ⟨l2, rfl, hl2, hls2⟩ := row_lists ha
      obtain ⟨k, ek⟩ : ∃ k, n - 2 = k + 1 := by
        cases hh : n - 2 with
        | zero => rw [hh] at hx; exact hx.elim
        | succ n => exact ⟨n, rfl⟩
      rw [ek] at hx
      have szl2 := sz_at hx hl2
      have inner2 : ∀ nm2 ∈ srt (kids s (some r.1)), ∀ (rs2 : List G) (ids : List Int) (x2 : G), RW 1 s nm2 (.lst rs2) = none → szG m (k - 2) x2 → x2 ∈ rs2 → wfB [0] x2 := fun nm2 hnm2 rs2 ids2 x2 hR2 hx2 hmem2 => by
        obtain ⟨r2, hr12, hr22, rfl⟩ := kids_mem (srt_perm.mem_iff.mp hnm2)
        have hR2 : rowsF (rowA (fieldsOf s r2.1) (RW 0 s) (srt (kids s (some r2.1)))) rs2 0 [] = none := hR2
        obtain ⟨ids3, ha3⟩ := rowsF_all hR2 x2 hmem2
        obtain ⟨l3, rfl, hl3, hls3⟩ := row_lists ha3
        have e0 : kids s (some r2.1) = [] := (kids_le hs hr12).2 (by rw [hr22]; exact fun h => nomatch h)
        rw [e0, srt_one (by decide)] at hls3
        have hn3 : hasN (atG (.dic l3) "lists") [] = true := by
          unfold listsW at hls3
          by_cases c : hasN (atG (.dic l3) "lists") [] = true
          · exact c
          · rw [if_neg c] at hls3; cases hls3
        obtain ⟨ls3, e3⟩ := hasN_dic hn3
        rw [e3] at hn3
        have l0 : ls3.length = 0 := by
          have hn3 : (decide (ls3.length = 0) && true) = true := hn3
          simpa using hn3
        exact ⟨l3, ls3, rfl, by rw [hl3, e3], by omega, fun p hp => by
          rw [List.eq_nil_of_length_eq_zero l0] at hp; cases hp⟩
      obtain ⟨ls2, e2, le2, hp2⟩ := lists_wf (c := 1) (cs := [0]) hls2 szl2 (srt_perm.nodup_iff.mpr (nd_kids hs _)) (by rw [srt_perm.length_eq]; exact (kids_le hs hr1).1) hm inner2 fun nm _ x hx => RW_lst hx
      exact ⟨l2, ls2, rfl, by rw [hl2, e2], le2, fun p hp' => by
        obtain ⟨rs, h1, h2, h3⟩ := hp2 p hp'
        exact ⟨rs, h1, h2, fun _ => h3⟩⟩
    obtain ⟨ls, e, le, hp⟩ := lists_wf (c := 2) (cs := [1, 0]) h szl (srt_perm.nodup_iff.mpr (nd_kids hs none)) (by rw [srt_perm.length_eq, kids_none, List.length_map]; exact hs.1) hm inner fun nm _ x hx => RW_lst hx
    exact ⟨l, ls, rfl, by rw [hl, e], le, fun p hp' => by
      obtain ⟨rs, h1, h2, h3⟩ := hp p hp'
      exact ⟨rs, h1, h2, fun _ => h3⟩⟩
  · rw [if_neg hn] at h; cases h
end Pk

namespace Pk
open PySem PySem.Spec PyProof.Rows L2 Ssb
open Evl (Ex Ev EvT EvL EvA EvU)
section
variable {P : Program} {w : World} {K : PySem.W.Frag} {mg : Str → Option Value} {base : Heap} {C_Shape C_InvalidData C_InvalidShape C_StayError : Addr}
def spRiG (cs : List Nat) : Sp := fun vs H Q _ => ∃ (v : V) (mm n : Nat) (S : Addr → Prop) (g : G), vs = [v] ∧ Rp H mm n S g v ∧ mm ≤ 8 ∧ wfB cs g ∧ ∀ H', Ex H H' → Q (.int (rN cs.length g)) H'
theorem ok_rows_inG (T : Txt K mg C_Shape C_InvalidData C_InvalidShape C_StayError) (R : Prg K mg C_Shape C_InvalidData C_InvalidShape C_StayError) : ∀ cs : List Nat, ∃ f fd, Fn P w K mg base "rows_in" (cs.length + 1) ["data"] (spRiG cs) f fd
  | [] => by
    obtain ⟨f, fd, at_, F, kp⟩ := R.rows_in
    refine ⟨f, fd, F.ok sc_rows_in (fun vs H Q E h => ?_) (fun cdv A outer s H vs Q E hr h => ?_), at_, kp, F.binds (fun _ _ _ _ _ _ us hl => match us, hl with | [_], _ => rfl)⟩
    · obtain ⟨v, mm, n, S, g, rfl, _⟩ := h; rfl
    · obtain ⟨v, mm, n, S, g, rfl, hv, hm, hw, k⟩ := h; exact hw.elim
  | c :: cs => by
    obtain ⟨f0, fd0, G_rows_in⟩ := ok_rows_inG T R cs
    obtain ⟨f, fd, at_, F, kp⟩ := R.rows_in
    refine ⟨f, fd, F.ok sc_rows_in (fun vs H Q E h => ?_) (fun cdv A outer s H vs Q E hr h => ?_), at_, kp, F.binds (fun _ _ _ _ _ _ us hl => match us, hl with | [_], _ => rfl)⟩
    · obtain ⟨v, mm, n, S, g, rfl, _⟩ := h; rfl
    · obtain ⟨v, mm, n, S, g, rfl, hv, hm, ⟨l, ls, rfl, hl, hc, hw⟩, k⟩ := h
      have k : ∀ H', Ex H H' → Q (.int (rN (cs.length + 1) (.dic l))) H' := k
      rw [rN_eq hl] at k
      obtain ⟨n, dv, des, rfl, rfl, _, hdv, _, _, _, _, dpr⟩ := rp_dic hv
      obtain ⟨vl, hvl, hrl⟩ : ∃ vl, valV des (Sum.inr ("lists" : Str) : Key) = some vl ∧ Rp H mm n (fun b => S b ∧ b ≠ dv) (.dic ls) vl := by
        rcases pair_lkG dpr (Sum.inr ("lists" : Str)) with ⟨d', vl, h1, hvl, hrl⟩ | ⟨h1, _⟩
        · rw [hl] at h1
          cases h1
          exact ⟨vl, hvl, hrl⟩
        · rw [h1] at hl; cases hl
      obtain ⟨n, da, es, rfl, rfl, ⟨_, nda⟩, hda, lls, le, _, _, pr⟩ := rp_dic hrl
      have lsAt : ∀ (i : Nat) (x : Key) (v : V), es[i]? = some (x, v) → ∃ p, ls[i]? = some p ∧ Rp H mm n (fun b => (S b ∧ b ≠ dv) ∧ b ≠ da) p.2 v := fun i x v hx => by
        obtain ⟨p, hp, _, h2⟩ := pair_back pr hx
        exact ⟨p, hp, h2⟩
      rw [List.length_cons] at hr
      refine ⟨_, (pss_one (ps_ret (pe_callB (r := rSum K) (cr_sum rfl) (by rfl) T.sum (by decide +kernel) (pa_cons (pe_lock (pe_lc (own := [("rows", 1)]) rfl sc_rows_in.nd (pi_values (pe_dget (hu_of hr) (pv 0) pe_str (fun _ _ => rfl))) (blkOk_by (own := [("rows", 1)]) (N := ["data", "rows", "row"]) (sc := defScope s_rows_in) (by decide +kernel)) (fun _ _ _ _ _ => (pg_name (i := 1) sc_rows_in.nd rfl (Or.inl rfl))) (fun _ _ _ _ _ => pts_nil) (fun _ _ _ _ _ => (pe_op op_add (pe_callB (r := rLenA K) call_len (by rfl) T.len (by decide +kernel) (pa_cons (pv 1) pa_nil)) (pe_callB (r := rSum K) (cr_sum rfl) (by rfl) T.sum (by decide +kernel) (pa_cons (pe_lc (own := [("row", 2)]) rfl sc_rows_in.nd (show PI _ _ _ (iList K _) from pi_list (pv 1)) (blkOk_by (own := [("row", 2)]) (N := ["data", "rows", "row"]) (sc := { kind := .function, names := [(".0", .local), ("rows", .local), ("len", .globalImplicit), ("sum", .globalImplicit)], isGenerator := false, isCoroutine := false }) (by decide +kernel)) (fun _ _ _ _ _ => (pg_name (i := 2) sc_rows_in.nd rfl (Or.inl rfl))) (fun _ _ _ _ _ => pts_nil) (fun _ _ _ _ _ => (pcl G_rows_in hr (pa_cons (pv 2) pa_nil)))) pa_nil)))))) pa_nil)))), ?_⟩
      refine Evl.s_ret (ev_sum (n := es.length) (c := fun i => rL cs.length ((ls[i]?.map (·.2)).getD .non)) (el_lcV (d := da) (es := es) (fun H1 e1 od => ev_get (Evl.ev_var rfl) Evl.ev_c (.inl (by rw [upd_ne nda.symm]; exact e1 _ _ hdv)) hvl) hda (by omega) (fun _ => rfl) fun i x v hx od H1 H2 e1 e2 => ?_)) fun H2 e2 => ?_
      · obtain ⟨p, hp, hr1⟩ := lsAt i x v hx
        have pm := List.mem_of_getElem? hp
        obtain ⟨rs, ep, h8, hrs⟩ := hw p pm
        have c0 : c ≠ 0 := fun z => by
          have := List.length_pos_of_mem pm
          omega
        have er : rL cs.length ((ls[i]?.map (·.2)).getD .non) = (rs.length : Int) + (rs.map (rN cs.length)).sum := by
          rw [hp]
          show rL cs.length p.2 = _
          rw [ep]; rfl
        rw [er]
        have hr2 := rp_in (e1 _ _ hda) e2 (rp_ex e1 hr1)
        rw [ep] at hr2
        obtain ⟨n, rfl⟩ := rp_pos hr2
        obtain ⟨ra, xs, rfl, _, hra, hl5, pp⟩ := id hr2
        have lx := pair_len pp
        refine Evl.ev_op (Evl.ev_is (ev_lenL (Evl.ev_var rfl) (.inl (Evl.sq_of hra))) (by rw [← lx])) (Evl.ev_is (ev_sum (n := xs.length) (c := fun j => rN cs.length ((rs[j]?).getD .non)) (el_lcA (Evl.ev_var rfl) (Evl.sq_of hra) (by omega) (fun _ => rfl) fun j y hy H3 e3 => ?_)) ?_) Evl.rv_I0
        · obtain ⟨r, hr3, hr4⟩ := pair_back pp hy
          have e5 : rN cs.length ((rs[j]?).getD .non) = rN cs.length r := by rw [hr3]; rfl
          rw [e5]
          exact ev_fn (Evl.ea_cons (Evl.ev_var rfl) Evl.ea_nil) fun H4 e4 Q' q' => ⟨y, mm, n, _, r, rfl, rp_ex (e3.trans e4) hr4, hm, hrs c0 r (List.mem_of_getElem? hr3), q'⟩
        · congr 1
          congr 1
          exact map_range lx fun j a ha => by rw [ha]; rfl
      · have := k H2 e2
        rw [← map_range (f := fun i => rL cs.length ((ls[i]?.map (·.2)).getD .non)) le.symm fun i a ha => by rw [ha]; rfl] at this
        exact this
def flE (fl : List Str) : List (Str × List V) := fl.map fun x => (x, [V.bl true, V.bl false])
theorem cho_no {H : Hp} {fl : List Str} {es : List (Key × V)} {x : Str} : Paired (fun (q : Str × List V) (e : Key × V) => e.1 = Sum.inr q.1 ∧ ∃ t, e.2 = .ref t ∧ H t = some (.tup q.2)) (flE fl) es → x ∉ fl → valV es (Sum.inr x : Key) = none := by
  intro p
  generalize hc : flE fl = c at p
  induction p generalizing fl with
  | nil => intro _; rfl
  | @cons a b c es h t ih =>
    intro hx
    cases fl with
    | nil => cases hc
    | cons y fl =>
      unfold flE at hc
      rw [List.map_cons, List.cons.injEq] at hc
      rw [vV_cons, if_neg, ih hc.2 fun z => hx (List.mem_cons_of_mem _ z)]
      rw [h.1, ← hc.1]
      intro z
      exact hx (by rw [← Sum.inr.inj z]; exact List.mem_cons_self)

theorem wordsW_cong {ns : List Str} {ok ok' : Str → G → Bool} {g : G} (h : ∀ n ∈ ns, ∀ x, ok n x = ok' n x) : wordsW ns ok g = wordsW ns ok' g := by
  unfold wordsW
  by_cases c : hasN g ns = true
  · rw [if_pos c, if_pos c]
    induction ns with
    | nil => rfl
    | cons n ns ih =>
      clear c
      have key : ∀ l : List Str, (∀ n ∈ l, ∀ x, ok n x = ok' n x) → l.findSome? (fun n => if ok n (atG g n) = true then none else some [(Sum.inr n : Key)]) = l.findSome? (fun n => if ok' n (atG g n) = true then none else some [(Sum.inr n : Key)]) := by
        intro l
        induction l with
        | nil => intro _; rfl
        | cons y l ih2 =>
          intro hl
          rw [List.findSome?_cons, List.findSome?_cons, hl y List.mem_cons_self, ih2 fun z hz => hl z (List.mem_cons_of_mem _ hz)]
      exact key _ h
  · rw [if_neg c, if_neg c]
theorem flE_look {fl : List Str} {x : Str} (h : x ∈ fl) : ((flE fl).lookup x).getD [] = [V.bl true, V.bl false] := by
  induction fl with
  | nil => cases h
  | cons y fl ih =>
    show (((y, [V.bl true, V.bl false]) :: flE fl).lookup x).getD [] = _
    rw [lk_cons]
    by_cases c : x = y
    · rw [if_pos c]; rfl
    · rw [if_neg c]; exact ih ((List.mem_cons.mp h).resolve_left c)
theorem chB_bl {g : G} : chB [V.bl true, V.bl false] g = isBlG g := by
  cases g with
  | str x => show inV (.str x) [V.bl true, V.bl false] = false; simp [inV, eqV]
  | bl b => show inV (.bl b) [V.bl true, V.bl false] = true; cases b <;> simp [inV, eqV]
  | _ => rfl
def spCkX (C CE : Addr) : Sp := fun vs H Q E => ∃ (p : Addr) (v : V) (mm n : Nat) (S : Addr → Prop) (g : G) (fl : List Str) (s : Sh) (S' : Addr → Prop), vs = [.ref p, v] ∧ ShapeAt C H p fl s S' ∧ fl.length ≤ 2 ∧ fl.Nodup ∧ okSh s ∧ Rp H mm n S g v ∧ mm ≤ 8 ∧ saysX CE (dataW fl s g) [] H Q E
theorem ok_checkX (T : Txt K mg C_Shape C_InvalidData C_InvalidShape C_StayError) (R : Prg K mg C_Shape C_InvalidData C_InvalidShape C_StayError) : ∃ f fd, FnX P w K mg base "check" 16 ["shape", "data"] (spCkX C_Shape C_InvalidData) f fd := by
  obtain ⟨_, _, G_check_lists⟩ := ok_check_listsX2 (P := P) (w := w) (base := base) T R
  obtain ⟨_, _, G_has_names⟩ := ok_has_namesG (P := P) (w := w) (base := base) T R
  obtain ⟨_, _, G_check_words⟩ := ok_check_wordsX (P := P) (w := w) (base := base) T R
  obtain ⟨_, _, G_rows_in⟩ := ok_rows_inG (P := P) (w := w) (base := base) T R [2, 1, 0]
  obtain ⟨_, _, G_Shape_outer⟩ := ok_Shape_outer (P := P) (w := w) (base := base) T R
  obtain ⟨_, _, G_InvalidData, tI⟩ := ok_InvalidData_init (P := P) (w := w) (base := base) T R
  obtain ⟨tG, gG⟩ := T.g_MOST_ROWS
  obtain ⟨f, fd, at_, F, kp⟩ := R.check
  refine ⟨f, fd, F.okX sc_check (fun vs H Q E h => ?_) (fun cdv A outer s H vs Q E hr h => ?_), at_, kp, F.binds (fun _ _ _ _ _ _ us hl => match us, hl with | [_, _], _ => rfl)⟩
  · obtain ⟨p, v, mm, n, S, g, fl, s, S', rfl, _⟩ := h; rfl
  · obtain ⟨p, v, mm, n, S, g, fl, z, S', rfl, hS, fl2, fln, hz, hv, hm, k⟩ := h
    obtain ⟨dx, ft, tb, hp, hft, htb⟩ := id hS
    refine ⟨_, (pss_cons (ps_if (pt_not (pt_val (pcl G_has_names hr (pa_cons (pv 1) (pa_cons (pe_lst (pa_cons pe_str (pa_cons pe_str pa_nil))) pa_nil))))) (pss_one (ps_raise rfl (takes_of rfl rfl rfl rfl) (pmk_oexE T.ox_InvalidData G_InvalidData tI hr T.at_InvalidData (pa_cons (pe_tup pa_nil) pa_nil)))) pss_nil)
  (pss_cons (ps_expr (pclX G_check_words (takes_of rfl rfl rfl rfl) hr (pa_cons (pe_dget (hu_of hr) (pv 1) pe_str (fun _ _ => rfl)) (pa_cons (pe_dc (own := [("flag", 2)]) rfl sc_check.nd (show PI _ _ _ (iTup K _) from pi_tup (show PE _ _ (tFld K _ _) from pe_fld (pv 0) rfl)) (blkOk_by (own := [("flag", 2)]) (N := ["shape", "data", "flag"]) (sc := defScope s_check) (by decide +kernel)) (fun _ _ _ _ _ => (pg_name (i := 2) sc_check.nd rfl (Or.inl rfl))) (fun _ _ _ _ _ => pts_nil) (fun _ _ _ _ _ => (pv 2)) (fun _ _ _ _ _ => (pe_tup (pa_cons pe_bl (pa_cons pe_bl pa_nil))))) (pa_cons (pe_tup (pa_cons pe_str pa_nil)) pa_nil)))))
  (pss_cons (ps_expr (pclX G_check_lists (takes_of rfl rfl rfl rfl) hr (pa_cons (pv 0) (pa_cons (pe_dget (hu_of hr) (pv 1) pe_str (fun _ _ => rfl)) (pa_cons (pmt0 (pv 0) T.cl_Shape G_Shape_outer hr) (pa_cons (pe_tup (pa_cons pe_str pa_nil)) pa_nil))))))
  (pss_one (ps_if (pt_cmpR op_gt (pcl G_rows_in hr (pa_cons (pv 1) pa_nil)) (pe_glob (v := .int 300) rfl gG ⟨_, rfl⟩) (nomark _)) pss_never pss_nil))))), ?_⟩
    refine Evl.q_when (b := !hasN g ["flags", "lists"]) (Evl.et_not (Evl.et_B (ev_fnL (Evl.ev_var rfl) (Evl.el_lst (Evl.ea_cons Evl.ev_c (Evl.ea_cons Evl.ev_c Evl.ea_nil)) (by show 2 ≤ 100000; decide)) fun a H4 e4 ha Q q => ⟨_, ⟨_, mm, n, S, g, a, ["flags", "lists"], rfl, rp_ex e4 hv, Evl.sq_of ha, by show 2 ≤ 1000; decide, rfl⟩, q⟩))) (fun hb H1 e1 => ?_) fun hb H1 e1 => ?_
    · have hw : dataW fl z g = some [] := by
        unfold dataW; rw [if_neg (by simpa using hb)]
      exact s_raiseP (pk := []) (fun Q' q' => ⟨(by show 0 ≤ sizeLine; decide), fun a ha => q' a _ (Ex.new ha) upd_same⟩) fun H' t d e' ht hd => k.2 [] hw H' t d (e1.trans e') ht hd
    have hn : hasN g ["flags", "lists"] = true := by simpa using hb
    obtain ⟨dv, des, vf, n', rfl, hdv, hvf, rfl, hrf⟩ := atg hv hn (nm := "flags") (by decide)
    obtain ⟨dv3, des3, vl, n3, e3v, hdv3, hvl, en3, hrl⟩ := atg hv hn (nm := "lists") (by decide)
    cases e3v
    rw [hdv] at hdv3; cases hdv3
    obtain rfl : n' = n3 := by omega
    -- check_words
    refine ev_get (Evl.ev_var rfl) Evl.ev_c (.inl (e1 _ _ hdv)) hvf _ (Ex.refl _) _ fun H3 e3 => ?_
    have e03 := e1.trans e3
    refine ⟨_, rfl, p, C_Shape, dx, _, _, rfl, e03 _ _ hp, T.cl_Shape, T.no_Shape_flags, shF_flags _ _, ft, rfl, ⟨_, Evl.st_of (e03 _ _ hft)⟩, fun Dd hD => ?_⟩
    refine dc_tup (xs := fl.map V.str) (fun i H' => Ex H3 H' ∧ ∃ es, H' Dd = some (.dK es) ∧ Paired (fun (q : Str × List V) (e : Key × V) => e.1 = Sum.inr q.1 ∧ ∃ t, e.2 = .ref t ∧ H' t = some (.tup q.2)) (flE (fl.take i)) es) ⟨Ex.new hD, [], upd_same, .nil⟩ (fun i H' _ pv => Evl.st_of (pv.1 _ _ (e03 _ _ hft))) (fun i x H' hx pv => ?_) fun H4 pv => ?_
    · obtain ⟨e4, es, hes, pes⟩ := pv
      rw [List.getElem?_map] at hx
      cases hy : fl[i]? with
      | none => rw [hy] at hx; cases hx
      | some y =>
      rw [hy] at hx
      cases hx
      refine ⟨rfl, ?_⟩
      refine yes_go ?_
      refine ⟨_, rfl, (by show 2 ≤ sizeLine; decide), fun tp htp => ?_⟩
      have nDt : Dd ≠ tp := fun e => by rw [← e, hes] at htp; cases htp
      have tk : fl.take (i + 1) = fl.take i ++ [y] := by rw [List.take_add_one, hy]; rfl
      have nin : y ∉ fl.take i := fun hm => (List.nodup_append.mp (by rw [← tk]; exact List.Sublist.nodup (List.take_sublist _ _) fln : (fl.take i ++ [y]).Nodup)).2.2 y hm y (List.mem_singleton.mpr rfl) rfl
      have nv := cho_no pes nin
      have les : es.length ≤ 2 := by
        rw [← pair_len pes]; unfold flE; rw [List.length_map, List.length_take]; omega
      refine ⟨es, Sum.inr y, rfl, by rw [upd_ne nDt]; exact hes, Evl.sz_lt (by omega), Ex.mut (e4.trans (Ex.new htp)) hD, es ++ [(Sum.inr y, .ref tp)], by rw [upd_same, putK_new _ nv], ?_⟩
      have et : flE (fl.take (i + 1)) = flE (fl.take i) ++ [(y, [V.bl true, V.bl false])] := by rw [tk]; unfold flE; rw [List.map_append]; rfl
      rw [et]
      have keep : ∀ t xs, H' t = some (.tup xs) → (upd (upd H' tp (.tup [V.bl true, V.bl false])) Dd (.dK (putK es (Sum.inr y) (.ref tp)))) t = some (.tup xs) := fun t xs ht => by
        have nt : t ≠ Dd := fun e => by rw [e, hes] at ht; cases ht
        rw [upd_ne nt]
        exact Ex.new htp _ _ ht
      refine pair_snoc (pair_imp pes fun a b h => ⟨h.1, h.2.choose, h.2.choose_spec.1, keep _ _ h.2.choose_spec.2⟩) ⟨rfl, tp, rfl, ?_⟩
      rw [upd_ne (Ne.symm nDt), upd_same]
    obtain ⟨e4, es, hes, pes⟩ := pv
    rw [List.length_map, List.take_of_length_le (Nat.le_refl _)] at pes
    have e04 := e03.trans e4
    refine ⟨(by show 1 ≤ sizeLine; decide), fun tp htp => ?_⟩
    have e05 := e04.trans (Ex.new (o := .tup [V.str "flags"]) htp)
    have kk : (flE fl).map (·.1) = fl := by unfold flE; rw [List.map_map]; exact List.map_id fl
    have eqw : wordsW (srt ((flE fl).map (·.1))) (fun nm x => chB (((flE fl).lookup nm).getD []) x) (atG g "flags") = wordsW (srt fl) (fun _ x => isBlG x) (atG g "flags") := by
      rw [kk]
      exact wordsW_cong fun nm hnm x => by rw [flE_look (srt_perm.mem_iff.mp hnm), chB_bl]
    refine ⟨vf, .ref tp, Dd, mm, n', _, atG g "flags", flE fl, [Sum.inr ("flags" : Str)], rfl, rp_ex e05 hrf, ChoAt.ex (Ex.new htp) ⟨es, hes, pes⟩, by rw [kk]; exact fln, by unfold flE; rw [List.length_map]; exact fl2, fun q hq x hx => ?_, ⟨tp, rfl, upd_same, (fun h => nomatch h), (by show 1 ≤ 20; decide)⟩, (by show 1 ≤ 18; decide), fun hno H6 e6 => ?_, fun q hq H6 t d e6 ht hd => ?_⟩
    · obtain ⟨y, _, rfl⟩ := List.mem_map.mp hq
      rcases List.mem_cons.mp hx with rfl | hx
      · exact .inr ⟨_, rfl⟩
      · exact .inr ⟨_, List.mem_singleton.mp hx⟩
    · rw [eqw] at hno
      have hw : dataW fl z g = (listsW (RW 2 z) (srt (kids z none)) (atG g "lists")).map (Sum.inr ("lists" : Str) :: ·) := by
        unfold dataW; rw [if_pos hn, hno]
      have e06 := e05.trans e6
      refine ⟨_, rfl, ?_⟩
      refine ev_get (Evl.ev_var rfl) Evl.ev_c (.inl (e06 _ _ hdv)) hvl _ (Ex.refl _) _ fun H7 e7 => ?_
      have e07 := e06.trans e7
      refine ⟨_, rfl, p, dx, _, rfl, e07 _ _ hp, shF_no _ _ (by decide +kernel) (by decide +kernel), p, fl, z, S', rfl, hS.ex e07, hz, fun H8 q8 nms e8 nq8 hq8 perm so => ?_⟩
      have e08 := e07.trans e8
      have enm : nms = srt (kids z none) := srt_eq (by rw [kids_none, List.length_map]; exact hz.1) perm so
      refine ⟨(by show 1 ≤ sizeLine; decide), fun tp9 htp9 => ?_⟩
      have e9 : Ex H8 (upd H8 tp9 (.tup [V.str "lists"])) := Ex.new htp9
      have e09 := e08.trans e9
      refine ⟨p, q8, vl, .ref tp9, mm, n', _, atG g "lists", fl, z, S', none, [Sum.inr ("lists" : Str)], rfl, hS.ex e09, hz, fun r _ hr => ⟨by decide, fun _ => by decide⟩, rp_ex e09 hrl, hm, by rw [← enm]; exact e9 _ _ hq8, ⟨tp9, rfl, upd_same, (fun h => nomatch h), (by show 1 ≤ 20; decide)⟩, (by show 1 + 8 ≤ 11; decide), fun hno2 H10 e10 => ?_, fun q hq H10 t d e10 ht hd => k.2 (Sum.inr ("lists" : Str) :: q) (by rw [hw, hq]; rfl) H10 t d (e09.trans e10) ht hd⟩
      have e010 := e09.trans e10
      have hd0 : dataW fl z g = none := by rw [hw, hno2]; rfl
      have wf := data_wf hz (rp_sz hv) hm hd0
      have few : rN 3 g ≤ 144 := rN_le wf
      refine Evl.s_when (b := false) (Evl.et_is (Evl.et_test (Evl.ev_op (ev_fn (Evl.ea_cons (Evl.ev_var rfl) Evl.ea_nil) fun H4 e4 Q' q' => ⟨.ref dv, mm, n' + 1, S, g, rfl, rp_ex (e010.trans e4) hv, hm, wf, q'⟩) Evl.ev_c Evl.rv_I0)) (decide_eq_false (by show ¬ rN 3 g > 300; omega))) (fun h => nomatch h) fun _ H11 e11 => k.1 hd0 H11 (e010.trans e11)
    · rw [eqw] at hq
      exact k.2 (Sum.inr ("flags" : Str) :: q) (by unfold dataW; rw [if_pos hn, hq]) H6 t d (e05.trans e6) ht hd
end
end Pk

namespace Pk
open PySem PySem.Spec PyProof.Rows L2 Ssb
open Evl (Ex Ev EvT EvL EvA EvU)
/-! ### what the law finds -/
def saysL (res : Option (List Key)) (H : Hp) (Q : VK) : Prop :=
  (res = none → ∀ H', Ex H H' → Q .non H') ∧ ∀ q, res = some q → ∀ H' t, Ex H H' → H' t = some (.tup (q.map kV)) → Q (.ref t) H'
noncomputable def rowLW (f : Fl) (inn : List Str) (ids : List Int) (g : G) : Option (List Key) := match rowW f ids g with
  | some p => some p
  | none => if hasN (atG g "lists") inn = true then none else some [Sum.inr ("lists" : Str)]
theorem ev_lenE {K : PySem.W.Frag} {te : TE} {σ : L2.St} {H : Hp} {xs : List V} (h : EvL te σ H xs) : Ev (tCB (fun xs H Q => ∃ x n, xs = [x] ∧ LenV K x H n ∧ Q (.int n) H) (tCons te tNil)) σ H (.int (xs.length : Int)) := fun H1 e Q q =>
  h H1 e _ fun p H2 _ e2 hp => ⟨.ref p, xs.length, rfl, .inl ⟨xs, Evl.sq_of hp, rfl⟩, q H2 e2⟩
def gk (es : List (Key × V)) : V → Bool
  | .str s => (valV es (Sum.inr s : Key)).isSome
  | _ => false
theorem filt_gk {es : List (Key × V)} : ∀ {ns : List Str}, decide (((ns.map V.str).filter (gk es)).length = ns.length) = ns.all fun n => (valV es (Sum.inr n : Key)).isSome := by
  intro ns
  rw [Bool.eq_iff_iff, decide_eq_true_iff, List.all_eq_true]
  have e : ((ns.map V.str).filter (gk es)).length = ns.length ↔ ((ns.map V.str).filter (gk es)).length = (ns.map V.str).length := by rw [List.length_map]
  rw [e, List.length_filter_eq_length_iff]
  constructor
  · intro h n hn
    exact h (.str n) (List.mem_map.mpr ⟨n, hn, rfl⟩)
  · intro h x hx
    obtain ⟨n, hn, rfl⟩ := List.mem_map.mp hx
    exact h n hn
/-- a new tuple is handed back -/
theorem s_retP {ta : TA} {vs : List V} {q : List Key} {σ : L2.St} {H : Hp} {D : Ends} (h : EvA ta σ H vs) (e : vs = q.map kV) (hl : vs.length ≤ 100) (k : ∀ H' t, Ex H H' → H' t = some (.tup (q.map kV)) → D.rt (.ref t) H') : tRet (tTup ta) D σ H :=
  Evl.s_retU (Evl.eu_tup h (by omega)) fun p H1 _ e1 hp => k H1 p e1 (by rw [hp, e])
theorem names_eq {α β : Type} {F : α → β → Prop} {l : List (Str × α)} {k : List (Str × β)} (p : Paired (fun (p : Str × α) (q : Str × β) => p.1 = q.1 ∧ F p.2 q.2) l k) : l.map (·.1) = k.map (·.1) := by
  induction p with
  | nil => rfl
  | cons h t ih => rw [List.map_cons, List.map_cons, ih, h.1]
theorem keys_of {H : Hp} {n : Nat} {S : Addr → Prop} {l : List (Str × D)} {es : List (Key × V)} (p : Paired (fun (q : Str × D) (e : Key × V) => e.1 = Sum.inr q.1 ∧ Rep H n S q.2 e.2) l es) : es.map (fun e => e.1) = (l.map (·.1)).map Sum.inr := by
  induction p with
  | nil => rfl
  | cons h t ih => rw [List.map_cons, List.map_cons, List.map_cons, ih, h.1]
section
variable {P : Program} {w : World} {K : PySem.W.Frag} {mg : Str → Option Value} {base : Heap} {C_Shape C_InvalidData C_InvalidShape C_StayError : Addr}
theorem ok__law_has (T : Txt K mg C_Shape C_InvalidData C_InvalidShape C_StayError) (R : Prg K mg C_Shape C_InvalidData C_InvalidShape C_StayError) : ∃ f fd, Fn P w K mg base "_law_has" 1 ["_law_value", "_law_names_here"] (spB (preHas K)) f fd := by
  obtain ⟨f, fd, at_, F, kp⟩ := R._law_has
  refine ⟨f, fd, F.ok sc__law_has (fun vs H Q E h => ?_) (fun cdv A outer s H vs Q E hr h => ?_), at_, kp, F.binds (fun _ _ _ _ _ _ us hl => match us, hl with | [_, _], _ => rfl)⟩
  · obtain ⟨b, ⟨v, m, n, S, g, a, ns, rfl, _⟩, _⟩ := h; rfl
  · obtain ⟨b, ⟨v, m, n, S, g, a, ns, rfl, hg, ha, hn, rfl⟩, k⟩ := h
    refine ⟨_, (pss_cons (ps_if (PW.pt (pw_or (pt_not (pt_val (pe_callB (r := rIsi K) call_isi (by rfl) T.isinstance (by decide +kernel) (pa_cons (pv 0) (pa_cons (pe_bltn (v := .ty "dict") (by rfl) T.dict boot_dict rfl) pa_nil))))) (pw_or1 (pt_cmpR op_ne (pe_callB call_lenD (by rfl) T.len (by decide +kernel) (pa_cons (pv 0) pa_nil)) (pe_callB (r := rLenA K) call_len (by rfl) T.len (by decide +kernel) (pa_cons (pv 1) pa_nil)) (nomark _))))) (pss_one (ps_ret pe_bl)) pss_nil)
  (pss_one (ps_ret (pe_cmpR op_eq (pe_callB (r := rLenA K) call_len (by rfl) T.len (by decide +kernel) (pa_cons (pe_lc (own := [("_law_name", 2)]) rfl sc__law_has.nd (show PI _ _ _ (iList K _) from pi_list (pv 1)) (blkOk_by (own := [("_law_name", 2)]) (N := ["_law_value", "_law_names_here", "_law_name"]) (sc := defScope s__law_has) (by decide +kernel)) (fun _ _ _ _ _ => (pg_name (i := 2) sc__law_has.nd rfl (Or.inl rfl))) (fun _ _ _ _ _ => (pts_one (pt_cmp (pc_din (hu_of hr) (pv 2) (pv 0))))) (fun _ _ _ _ _ => (pv 2))) pa_nil)) (pe_callB (r := rLenA K) call_len (by rfl) T.len (by decide +kernel) (pa_cons (pv 1) pa_nil)) (nomark _))))), ?_⟩
    cases hd : dicG g with
    | none =>
      have e0 : hasN g ns = false := by unfold hasN; rw [hd]; rfl
      rw [e0] at k
      exact Evl.q_when (b := true) (Evl.et_or (a := true) (b := false) (Evl.et_not (a := false) (Evl.et_B (ev_isC (Evl.ev_var rfl) hg (by rw [isK_dic, hd]; rfl)))) fun h => nomatch h) (fun _ H1 e1 => Evl.s_ret Evl.ev_c fun H2 e2 => k H2 (e1.trans e2)) fun h => nomatch h
    | some l =>
      have eg : g = .dic l := by cases g <;> simp [dicG] at hd; rw [hd]
      subst eg
      obtain ⟨n, d, es, rfl, rfl, _, hda, _, le, _, _, pr⟩ := rp_dic hg
      have e1 : hasN (.dic l) ns = (decide (l.length = ns.length) && ns.all fun n => (lkG l (Sum.inr n)).isSome) := rfl
      refine Evl.q_when (b := !decide (V.int (es.length : Int) = V.int (((ns.map V.str).length : Nat) : Int))) (Evl.et_is (Evl.et_or (a := false) (Evl.et_not (a := true) (Evl.et_B (ev_isC (Evl.ev_var rfl) hg (by rw [isK_dic]; rfl)))) fun _ => Evl.et_test (Evl.ev_op (ev_lenK (Evl.ev_var rfl) hda) (ev_lenL (Evl.ev_var rfl) (.inl ha)) (Evl.rv_ne rfl))) (Bool.false_or _)) (fun hb H1 h1 => ?_) fun hb H1 h1 => ?_
      · have ne : ¬ l.length = ns.length := fun z => by
          rw [List.length_map, le, z] at hb
          simp at hb
        rw [e1, decide_eq_false ne] at k
        exact Evl.s_ret Evl.ev_c fun H2 e2 => k H2 (h1.trans e2)
      · have eq : l.length = ns.length := by
          rw [List.length_map, le] at hb
          have hb : decide (V.int (l.length : Int) = V.int (ns.length : Int)) = true := by simpa using hb
          have := V.int.inj (of_decide_eq_true hb)
          omega
        rw [e1, decide_eq_true eq, Bool.true_and] at k
        refine Evl.s_ret (v := .bl (ns.all fun n => (lkG l (Sum.inr n)).isSome)) (Evl.ev_is (Evl.ev_op (ev_lenE (xs := (ns.map V.str).filter (gk es)) (el_lcF (Evl.ev_var rfl) (Evl.ex_l h1 ha) (by rw [List.length_map]; omega) (fun _ => rfl) (fun x H2 e2 hx => ?_) fun x H2 e2 hx => Evl.ev_var rfl)) (ev_lenL (Evl.ev_var rfl) (.inl (Evl.ex_l h1 ha))) (Evl.rv_eq rfl)) ?_) fun H2 e2 => k H2 (h1.trans e2)
        · obtain ⟨y, _, rfl⟩ := List.mem_map.mp hx
          exact Evl.et_test (ev_din (Evl.ev_var rfl) (Evl.ev_var rfl) (.inl ((h1.trans e2) _ _ hda)))
        · have h2 : decide (V.int (((ns.map V.str).filter (gk es)).length : Int) = V.int (((ns.map V.str).length : Nat) : Int)) = decide (((ns.map V.str).filter (gk es)).length = ns.length) := by
            congr 1
            rw [List.length_map]
            exact propext ⟨fun h => by have := V.int.inj h; omega, fun h => by rw [h]⟩
          rw [h2, filt_gk]
          congr 1
          rw [Bool.eq_iff_iff, List.all_eq_true, List.all_eq_true]
          exact ⟨fun h x hx => by rw [← vG_some pr]; exact h x hx, fun h x hx => by rw [vG_some pr]; exact h x hx⟩
def spRw : Sp := fun vs H Q _ => ∃ (dv v : V) (er : Addr) (nD : Nat) (PD : Addr → Prop) (d : D) (f : Fl) (i : List (Str × Fl)) (mm n : Nat) (S : Addr → Prop) (g : G) (ids : List Int), vs = [dv, v, .ref er] ∧ Rep H nD PD d dv ∧ ls1 d f i ∧ okFl f ∧ i.length ≤ 1 ∧ Rp H mm n S g v ∧ mm ≤ 8 ∧ H er = some (.lst (ids.map V.int)) ∧ saysL (rowLW f (i.map (·.1)) ids g) H Q
theorem ok__law_row_wrong (T : Txt K mg C_Shape C_InvalidData C_InvalidShape C_StayError) (R : Prg K mg C_Shape C_InvalidData C_InvalidShape C_StayError) : ∃ f fd, Fn P w K mg base "_law_row_wrong" 2 ["_law_described", "_law_row", "_law_earlier"] spRw f fd := by
  obtain ⟨_, _, G__law_has⟩ := ok__law_has (P := P) (w := w) (base := base) T R
  obtain ⟨f, fd, at_, F, kp⟩ := R._law_row_wrong
  refine ⟨f, fd, F.ok sc__law_row_wrong (fun vs H Q E h => ?_) (fun cdv A outer s H vs Q E hr h => ?_), at_, kp, F.binds (fun _ _ _ _ _ _ us hl => match us, hl with | [_, _, _], _ => rfl)⟩
  · obtain ⟨dv, v, er, nD, PD, d, f, i, mm, n, S, g, ids, rfl, _⟩ := h; rfl
  · obtain ⟨dv, v, er, nD, PD, d, fl, inn, mm, n, S, g, ids, rfl, hd, ⟨ld, li, rfl, _, hfd, hin, hpi⟩, okf, il, hv, hm, her, k⟩ := h
    cases nD with
    | zero => exact hd.elim
    | succ nD =>
    obtain ⟨da, des, rfl, _, hda, _, dpr⟩ := id hd
    obtain ⟨vf, hvf, hrf⟩ := rep_entry dpr hfd
    obtain ⟨vi, hvi, hri⟩ := rep_entry dpr hin
    cases nD with
    | zero => exact hrf.elim
    | succ nD =>
    obtain ⟨qa, fes, rfl, _, hqa, _, fpr⟩ := id hrf
    obtain ⟨ia, ies, rfl, _, hia, _, ipr⟩ := id hri
    have cho := flD_cho hrf
    obtain ⟨fes', hqa', cpr⟩ := id cho
    rw [hqa] at hqa'
    cases hqa'
    have ik : ies.map (fun e => e.1) = (inn.map (·.1)).map Sum.inr := by
      rw [keys_of ipr]
      congr 1
      exact names_eq hpi
    have fk : fes.map (fun e => e.1) = (fl.map (·.1)).map Sum.inr := by
      rw [keys_of fpr]; congr 1; rw [List.map_map]; rfl
    have lf : (fl.map (·.1)).length ≤ 2 := by rw [List.length_map]; exact okf.1
    have lin : (inn.map (·.1)).length ≤ 1 := by rw [List.length_map]; exact il
    refine ⟨_, (pss_cons (ps_if (pt_not (pt_val (pcl G__law_has hr (pa_cons (pv 1) (pa_cons (pe_lst (pa_cons pe_str (pa_cons pe_str (pa_cons pe_str pa_nil)))) pa_nil))))) (pss_one (ps_ret (pe_tup pa_nil))) pss_nil)
  (pss_cons (ps_set (i := 3) sc__law_row_wrong.nd rfl (Or.inl rfl) (pe_dget (hu_of hr) (pv 1) pe_str (fun _ _ => rfl)))
  (pss_cons (ps_if (PW.pt (pw_or (pt_not (pt_val (pe_callB (r := rIsi K) call_isi (by rfl) T.isinstance (by decide +kernel) (pa_cons (pv 3) (pa_cons (pe_bltn (v := .ty "int") (by rfl) T.int boot_int rfl) pa_nil))))) (pw_or (pt_val (pe_callB (r := rIsi K) call_isi (by rfl) T.isinstance (by decide +kernel) (pa_cons (pv 3) (pa_cons (pe_bltn (v := .ty "bool") (by rfl) T.bool boot_bool rfl) pa_nil)))) (pw_or (pt_cmpR op_lt (pv 3) pe_int (nomark _)) (pw_or1 (pt_cmpR op_gt (pv 3) pe_int (nomark _))))))) (pss_one (ps_ret (pe_tup (pa_cons pe_str pa_nil)))) pss_nil)
  (pss_cons (ps_if (pt_cmpR (r := rIn K false) op_in_seq (pv 3) (pv 2) (by rfl)) (pss_one (ps_ret (pe_tup (pa_cons pe_str pa_nil)))) pss_nil)
  (pss_cons (ps_set (i := 4) sc__law_row_wrong.nd rfl (Or.inl rfl) (pe_dget (hu_of hr) (pv 0) pe_str (fun _ _ => rfl)))
  (pss_cons (ps_if (pt_not (pt_val (pcl G__law_has hr (pa_cons (pe_dget (hu_of hr) (pv 1) pe_str (fun _ _ => rfl)) (pa_cons (pe_callB (r := rSortDK) (call_sortedD rfl) (by rfl) T.sorted (by decide +kernel) (pa_cons (pv 4) pa_nil)) pa_nil))))) (pss_one (ps_ret (pe_tup (pa_cons pe_str pa_nil)))) pss_nil)
  (pss_cons (ps_for PassesOwn.never rfl (show PI _ _ _ (iList K _) from pi_list (pe_callB (r := rSortDK) (call_sortedD rfl) (by rfl) T.sorted (by decide +kernel) (pa_cons (pv 4) pa_nil))) (pg_name (i := 5) sc__law_row_wrong.nd rfl (Or.inl rfl))
    (pss_one (ps_if (PW.pt (pw_or (pt_not (pt_val (pe_callB (r := rIsi K) call_isi (by rfl) T.isinstance (by decide +kernel) (pa_cons (pe_dget (hu_of hr) (pe_dget (hu_of hr) (pv 1) pe_str (fun _ _ => rfl)) (pv 5) (fun _ _ => rfl)) (pa_cons (pe_bltn (v := .ty "str") (by rfl) T.str boot_str rfl) pa_nil))))) (pw_or1 (pt_cmpR (r := rIn K true) op_notIn_seq (pe_dget (hu_of hr) (pe_dget (hu_of hr) (pv 1) pe_str (fun _ _ => rfl)) (pv 5) (fun _ _ => rfl)) (pe_dget (hu_of hr) (pv 4) (pv 5) (fun _ _ => rfl)) (by rfl))))) (pss_one (ps_ret (pe_tup (pa_cons pe_str (pa_cons (pv 5) pa_nil))))) pss_nil)))
  (pss_cons (ps_if (pt_not (pt_val (pcl G__law_has hr (pa_cons (pe_dget (hu_of hr) (pv 1) pe_str (fun _ _ => rfl)) (pa_cons (pe_callB (r := rSortDK) (call_sortedD rfl) (by rfl) T.sorted (by decide +kernel) (pa_cons (pe_dget (hu_of hr) (pv 0) pe_str (fun _ _ => rfl)) pa_nil)) pa_nil))))) (pss_one (ps_ret (pe_tup (pa_cons pe_str pa_nil)))) pss_nil)
  (pss_one (ps_ret pe_non)))))))))), ?_⟩
    refine Evl.q_when (b := !hasN g ["id", "fields", "lists"]) (Evl.et_not (Evl.et_B (ev_fnL (Evl.ev_var rfl) (Evl.el_lst (Evl.ea_cons Evl.ev_c (Evl.ea_cons Evl.ev_c (Evl.ea_cons Evl.ev_c Evl.ea_nil))) (by show 3 ≤ 100000; decide)) fun a H4 e4 ha Q q => ⟨_, ⟨_, mm, n, S, g, a, ["id", "fields", "lists"], rfl, rp_ex e4 hv, Evl.sq_of ha, by show 3 ≤ 1000; decide, rfl⟩, q⟩))) (fun hb H1 e1 => ?_) fun hb H1 e1 => ?_
    · have hw : rowLW fl (inn.map (·.1)) ids g = some [] := by
        unfold rowLW rowW; rw [if_neg (by simpa using hb)]
      exact s_retP (q := []) Evl.ea_nil rfl (by show 0 ≤ 100; decide) fun H' t e' ht => k.2 [] hw H' t (e1.trans e') ht
    have hn : hasN g ["id", "fields", "lists"] = true := by simpa using hb
    obtain ⟨dv, des2, vn, n', rfl, hdv, hvn, rfl, hrn⟩ := atg hv hn (nm := "id") (by decide)
    obtain ⟨dv2, des3, vff, n2, e2v, hdv2, hvff, en2, hrff⟩ := atg hv hn (nm := "fields") (by decide)
    cases e2v
    rw [hdv] at hdv2; cases hdv2
    obtain rfl : n' = n2 := by omega
    obtain ⟨dv3, des4, vl, n3, e3v, hdv3, hvl, en3, hrl⟩ := atg hv hn (nm := "lists") (by decide)
    cases e3v
    rw [hdv] at hdv3; cases hdv3
    obtain rfl : n' = n3 := by omega
    have badId : idOk (atG g "id") ids = false → rowLW fl (inn.map (·.1)) ids g = some [Sum.inr ("id" : Str)] := fun h => by
      unfold rowLW rowW; rw [if_pos hn, if_neg (by rw [h]; exact fun h => nomatch h)]
    refine Evl.q_asg (ev_get (Evl.ev_var rfl) Evl.ev_c (.inl (e1 _ _ hdv)) hvn) fun H2 e2 => ?_
    have e02 := e1.trans e2
    have hrn2 := rp_ex e02 hrn
    refine Evl.q_when (b := !intOk (atG g "id") 0 1000000) ?_ (fun hb H3 e3 => ?_) fun hb H3 e3 => ?_
    · obtain ⟨n', rfl⟩ := rp_pos hrn2
      generalize atG g "id" = x at hrn2
      cases x with
      | non => exact Evl.et_or (a := true) (b := true) (Evl.et_not (a := false) (Evl.et_B (ev_isC (Evl.ev_var rfl) hrn2 ki_non_int))) fun h => nomatch h
      | str y => exact Evl.et_or (a := true) (b := true) (Evl.et_not (a := false) (Evl.et_B (ev_isC (Evl.ev_var rfl) hrn2 ki_str_int))) fun h => nomatch h
      | lst y => exact Evl.et_or (a := true) (b := true) (Evl.et_not (a := false) (Evl.et_B (ev_isC (Evl.ev_var rfl) hrn2 ki_lst_int))) fun h => nomatch h
      | tup y => exact Evl.et_or (a := true) (b := true) (Evl.et_not (a := false) (Evl.et_B (ev_isC (Evl.ev_var rfl) hrn2 ki_tup_int))) fun h => nomatch h
      | dic y => exact Evl.et_or (a := true) (b := true) (Evl.et_not (a := false) (Evl.et_B (ev_isC (Evl.ev_var rfl) hrn2 ki_dic_int))) fun h => nomatch h
      | bl y => exact Evl.et_or (a := false) (b := true) (Evl.et_not (a := true) (Evl.et_B (ev_isC (Evl.ev_var rfl) hrn2 ki_bl_int))) fun _ => Evl.et_or (a := true) (b := true) (Evl.et_B (ev_isC (Evl.ev_var rfl) hrn2 ki_bl_bool)) fun h => nomatch h
      | int j =>
        have e : vn = .int j := hrn2
        subst e
        refine Evl.et_is (Evl.et_or (a := false) (b := decide (j < 0) || decide (j > 1000000)) (Evl.et_not (a := true) (Evl.et_B (ev_isC (Evl.ev_var rfl) hrn2 ki_int_int))) fun _ => Evl.et_or (a := false) (b := decide (j < 0) || decide (j > 1000000)) (Evl.et_B (ev_isC (Evl.ev_var rfl) hrn2 ki_int_bool)) fun _ => Evl.et_or (Evl.et_test (Evl.ev_op (Evl.ev_var rfl) Evl.ev_c Evl.rv_I0)) fun _ => Evl.et_test (Evl.ev_op (Evl.ev_var rfl) Evl.ev_c Evl.rv_I0)) ?_
        show (false || (decide (j < 0) || decide (j > 1000000))) = !(decide (0 ≤ j) && decide (j ≤ 1000000))
        rw [Bool.eq_iff_iff]
        simp only [Bool.false_or, Bool.or_eq_true, decide_eq_true_eq, Bool.not_eq_true', Bool.and_eq_false_iff, decide_eq_false_iff_not]
        omega
    · have hno : intOk (atG g "id") 0 1000000 = false := by simpa using hb
      have hid : idOk (atG g "id") ids = false := by
        have := idOk_eq (g := g) (ids := ids)
        rw [hno] at this
        cases h : idOk (atG g "id") ids with
        | false => rfl
        | true => rw [h] at this; cases this
      exact s_retP (q := [Sum.inr ("id" : Str)]) (Evl.ea_cons Evl.ev_c Evl.ea_nil) rfl (by show 1 ≤ 100; decide) fun H' t e' ht => k.2 _ (badId hid) H' t (e02.trans (e3.trans e')) ht
    have hio : intOk (atG g "id") 0 1000000 = true := by simpa using hb
    obtain ⟨j, hj⟩ : ∃ j, atG g "id" = .int j := by
      cases hh : atG g "id" with
      | int i => exact ⟨i, rfl⟩
      | _ => rw [hh] at hio; cases hio
    have ej : idOf g = j := by unfold idOf; rw [hj]
    have evn : vn = .int j := by
      rw [hj] at hrn
      obtain ⟨n', rfl⟩ := rp_pos hrn
      exact hrn
    subst evn
    have e03 := e02.trans e3
    have idq := idOk_eq (g := g) (ids := ids)
    rw [hio, ej] at idq
    refine Evl.q_when (b := decide (j ∈ ids)) (Evl.et_is (Evl.et_test (Evl.ev_op (Evl.ev_var rfl) (Evl.ev_var rfl) (Evl.rv_isL (Evl.sq_of (e03 _ _ her)) rfl (List.all_eq_true.mpr fun y hy => by obtain ⟨z, _, rfl⟩ := List.mem_map.mp hy; rfl)))) (by rw [Bool.eq_iff_iff, inV_ints, decide_eq_true_iff])) (fun hb H4 e4 => ?_) fun hb H4 e4 => ?_
    · rw [hb] at idq
      have hid : idOk (atG g "id") ids = false := by simpa using idq.symm
      exact s_retP (q := [Sum.inr ("id" : Str)]) (Evl.ea_cons Evl.ev_c Evl.ea_nil) rfl (by show 1 ≤ 100; decide) fun H' t e' ht => k.2 _ (badId hid) H' t (e03.trans (e4.trans e')) ht
    have hid : idOk (atG g "id") ids = true := by
      rw [hb] at idq; simpa using idq.symm
    have rw1 : rowW fl ids g = (wordsW (srt (fl.map (·.1))) (fldOk fl) (atG g "fields")).map (Sum.inr ("fields" : Str) :: ·) := by
      unfold rowW; rw [if_pos hn, if_pos hid]
    have e04 := e03.trans e4
    clear badId idq hb
    refine Evl.q_asg (ev_get (Evl.ev_var rfl) Evl.ev_c (.inl (e04 _ _ hda)) hvf) fun H5 e5 => ?_
    have e05 := e04.trans e5
    refine Evl.q_when (b := !hasN (atG g "fields") (srt (fl.map (·.1)))) (Evl.et_not (Evl.et_B fun H6 e6 Q' q' => ?_)) (fun hb H6 e6 => ?_) fun hb H6 e6 => ?_
    · refine ev_get (Evl.ev_var rfl) Evl.ev_c (.inl (e05 _ _ hdv)) hvff H6 e6 _ fun H7 e7 => ⟨_, rfl, qa, fes, fl.map (·.1), rfl, .inl ((e05.trans (e6.trans e7)) _ _ hqa), fk, by omega, fun ys b perm so hb => ?_⟩
      have ey := srt_eq lf perm so
      exact ⟨hasN (atG g "fields") (srt (fl.map (·.1))), ⟨vff, mm, n', _, atG g "fields", b, ys, rfl, rp_ex (e05.trans (e6.trans (e7.trans (Ex.new hb)))) hrff, Evl.sq_of upd_same, by rw [perm.length_eq]; omega, by rw [ey]⟩, fun H8 e8 => q' H8 (e7.trans ((Ex.new hb).trans e8))⟩
    · have hw : rowLW fl (inn.map (·.1)) ids g = some [Sum.inr ("fields" : Str)] := by
        unfold rowLW; rw [rw1]; unfold wordsW; rw [if_neg (by simpa using hb)]; rfl
      exact s_retP (q := [Sum.inr ("fields" : Str)]) (Evl.ea_cons Evl.ev_c Evl.ea_nil) rfl (by show 1 ≤ 100; decide) fun H' t e' ht => k.2 _ hw H' t (e05.trans (e6.trans e')) ht
    have hnf : hasN (atG g "fields") (srt (fl.map (·.1))) = true := by simpa using hb
    have e06 := e05.trans e6
    refine ⟨_, rfl, qa, fes, fl.map (·.1), rfl, .inl (e06 _ _ hqa), fk, by omega, fun ys b perm so hb => ?_⟩
    have ey := srt_eq lf perm so
    have hww : wordsW (srt (fl.map (·.1))) (fldOk fl) (atG g "fields") = ys.findSome? (fun n => if fldOk fl n (atG (atG g "fields") n) = true then none else some [Sum.inr n]) := by
      rw [ey]; unfold wordsW; rw [if_pos hnf]
    have e7 : Ex H (upd H6 b (.lst (ys.map V.str))) := e06.trans (Ex.new hb)
    have hb7 : (upd H6 b (.lst (ys.map V.str))) b = some (.lst (ys.map V.str)) := upd_same
    generalize (upd H6 b (.lst (ys.map V.str))) = H7 at e7 hb7 ⊢
    refine ⟨b, rfl, ⟨_, Evl.sq_of hb7⟩, for_list (K := K) (a := b) (xs := ys.map V.str) (fun i σ' H' => ∃ o, σ' = [some (.ref da), some (.ref dv), some (.ref er), some (.int j), some (.ref qa), o] ∧ Ex H7 H' ∧ ∀ y ∈ ys.take i, fldOk fl y (atG (atG g "fields") y) = true) ⟨_, rfl, Ex.refl _, fun y h => nomatch h⟩ (fun i σ' H' _ ⟨_, _, e, _⟩ => Evl.sq_of (e _ _ hb7)) (fun i x σ' H' hx ⟨o, eσ, e, hok⟩ => ?_) fun σ' H' ⟨_, eσ, e, hok⟩ => ?_⟩
    · subst eσ
      rw [List.getElem?_map] at hx
      cases hy : ys[i]? with
      | none => rw [hy] at hx; cases hx
      | some y =>
      rw [hy] at hx
      cases hx
      have ym := List.mem_of_getElem? hy
      obtain ⟨ws, hlk, hmem⟩ := lk_mem (perm.mem_iff.mp ym)
      obtain ⟨ve, hve, t, rfl, ht⟩ := pair_lkV (F := fun x v => ∃ t, v = .ref t ∧ H t = some (.tup x)) cpr (k := y) (d := ws.map V.str) (by
        have : ∀ fl : Fl, fl.lookup y = some ws → (fl.map fun p => (p.1, p.2.map V.str)).lookup y = some (ws.map V.str) := by
          intro fl
          induction fl with
          | nil => intro h; simp [List.lookup] at h
          | cons a f ih =>
            intro h
            rw [List.map_cons, lk_cons]
            rw [lk_cons] at h
            by_cases c : y = a.1
            · rw [if_pos c] at h ⊢; cases h; rfl
            · rw [if_neg c] at h ⊢; exact ih h
        exact this fl hlk)
      obtain ⟨dff, dffs, vd, n4, rfl, hdff, hvd, rfl, hrd⟩ := atg hrff hnf (ey ▸ ym)
      have e8 := e7.trans e
      have getx : ∀ {H9 : Hp}, Ex H9 H9 → Ex H' H9 → Ev (tDGet (tDGet (tVar 1) (tC (.str "fields"))) (tVar 5)) [some (.ref da), some (.ref dv), some (.ref er), some (.int j), some (.ref qa), some (.str y)] H9 vd := fun _ e9 =>
        ev_get (ev_get (Evl.ev_var rfl) Evl.ev_c (.inl ((e8.trans e9) _ _ hdv)) hvff) (Evl.ev_var rfl) (.inl ((e8.trans e9) _ _ hdff)) hvd
      have gety : ∀ {H9 : Hp}, Ex H' H9 → Ev (tDGet (tVar 4) (tVar 5)) [some (.ref da), some (.ref dv), some (.ref er), some (.int j), some (.ref qa), some (.str y)] H9 (.ref t) := fun e9 =>
        ev_get (Evl.ev_var rfl) (Evl.ev_var rfl) (.inl ((e8.trans e9) _ _ hqa)) hve
      have fo : fldOk fl y (atG (atG g "fields") y) = (isStrG (atG (atG g "fields") y) && match atG (atG g "fields") y with | .str x => ws.contains x | _ => false) := by
        unfold fldOk isStrG
        rw [hlk]
        cases atG (atG g "fields") y <;> rfl
      refine gname_go ?_
      refine Evl.s_when (b := !fldOk fl y (atG (atG g "fields") y)) (Evl.et_is (Evl.et_or (a := !isStrG (atG (atG g "fields") y)) (b := !(match atG (atG g "fields") y with | .str x => ws.contains x | _ => false)) (Evl.et_not (Evl.et_B (ev_isC (getx (Ex.refl _) (Ex.refl _)) (rp_ex e8 hrd) (isK_str _)))) fun hs => ?_) (by rw [fo, Bool.not_and])) (fun hb H9 e9 => ?_) fun hb H9 e9 => ?_
      · obtain ⟨x, hx⟩ : ∃ x, atG (atG g "fields") y = .str x := by
          cases hh : atG (atG g "fields") y with
          | str x => exact ⟨x, rfl⟩
          | _ => rw [hh] at hs; cases hs
        have evd : vd = .str x := by
          rw [hx] at hrd
          obtain ⟨n4, rfl⟩ := rp_pos hrd
          exact hrd.1
        rw [hx]
        subst evd
        exact Evl.et_is (Evl.et_test (Evl.ev_op (getx (Ex.refl _) (Ex.refl _)) (gety (Ex.refl _)) (Evl.rv_niT (Evl.st_of (e8 _ _ ht)) rfl (List.all_eq_true.mpr fun z hz => by obtain ⟨z', _, rfl⟩ := List.mem_map.mp hz; rfl)))) (by
          congr 1
          show inV (.str x) (ws.map V.str) = ws.contains x
          rw [Bool.eq_iff_iff, inV_strs, List.contains_iff_mem])
      · have hf : fldOk fl y (atG (atG g "fields") y) = false := by simpa using hb
        have hw2 := hww.trans (fs_take (i := i) (x := y) (p := [Sum.inr y]) (fun z hz => by rw [if_pos (hok z hz)]) hy (by rw [hf]; rfl))
        have hw : rowLW fl (inn.map (·.1)) ids g = some [Sum.inr ("fields" : Str), Sum.inr y] := by
          unfold rowLW; rw [rw1, hw2]; rfl
        exact s_retP (q := [Sum.inr ("fields" : Str), Sum.inr y]) (Evl.ea_cons Evl.ev_c (Evl.ea_cons (Evl.ev_var rfl) Evl.ea_nil)) rfl (by show 2 ≤ 100; decide) fun H' t e' ht => k.2 _ hw H' t (e8.trans (e9.trans e')) ht
      · have hf : fldOk fl y (atG (atG g "fields") y) = true := by simpa using hb
        refine ⟨_, rfl, e.trans e9, fun z hz => ?_⟩
        rw [take_snocG hy] at hz
        rcases List.mem_append.mp hz with hz | hz
        · exact hok z hz
        · rw [List.mem_singleton.mp hz]; exact hf
    · subst eσ
      rw [List.length_map, List.take_of_length_le (Nat.le_refl _)] at hok
      have hw2 : wordsW (srt (fl.map (·.1))) (fldOk fl) (atG g "fields") = none := hww.trans (fs_none fun y hy => by rw [if_pos (hok y hy)])
      have rw3 : rowLW fl (inn.map (·.1)) ids g = if hasN (atG g "lists") (inn.map (·.1)) = true then none else some [Sum.inr ("lists" : Str)] := by
        unfold rowLW; rw [rw1, hw2]; rfl
      have e8 := e7.trans e
      dsimp only
      refine Evl.q_when (b := !hasN (atG g "lists") (inn.map (·.1))) (Evl.et_not (Evl.et_B fun H9 e9 Q' q' => ?_)) (fun hb H9 e9 => ?_) fun hb H9 e9 => ?_
      · refine ev_get (Evl.ev_var rfl) Evl.ev_c (.inl (e8 _ _ hdv)) hvl H9 e9 _ fun H10 e10 => ?_
        refine ev_get (Evl.ev_var rfl) Evl.ev_c (.inl (e8 _ _ hda)) hvi H10 (e9.trans e10) _ fun H11 e11 => ⟨ia, ies, inn.map (·.1), rfl, .inl ((e8.trans (e9.trans (e10.trans e11))) _ _ hia), ik, by omega, fun zs c perm2 so2 hc => ?_⟩
        have ez : zs = inn.map (·.1) := (srt_eq (by omega) perm2 so2).trans (srt_one lin)
        exact ⟨hasN (atG g "lists") (inn.map (·.1)), ⟨vl, mm, n', _, atG g "lists", c, zs, rfl, rp_ex (e8.trans (e9.trans (e10.trans (e11.trans (Ex.new hc))))) hrl, Evl.sq_of upd_same, by rw [perm2.length_eq]; omega, by rw [ez]⟩, fun H12 e12 => q' H12 (e10.trans (e11.trans ((Ex.new hc).trans e12)))⟩
      · exact s_retP (q := [Sum.inr ("lists" : Str)]) (Evl.ea_cons Evl.ev_c Evl.ea_nil) rfl (by show 1 ≤ 100; decide) fun H' t e' ht => k.2 _ (by rw [rw3, if_neg (by simpa using hb)]) H' t (e8.trans (e9.trans e')) ht
      · exact Evl.s_ret Evl.ev_c fun H10 e10 => k.1 (by rw [rw3, if_pos (by simpa using hb)]) H10 (e8.trans (e9.trans e10))
end
end Pk

namespace Pk
open PySem PySem.Spec PyProof.Rows L2 Ssb
open Evl (Ex Ev EvT EvL EvA EvU)
/-- (..) + a path -/
theorem s_retC {K : PySem.W.Frag} {ta : TA} {tb : TE} {as q : List Key} {t : Addr} {σ : L2.St} {H : Hp} {D : Ends} (h : EvA ta σ H (as.map kV)) (ne : as ≠ []) (la : as.length ≤ 10) (hb : Ev tb σ H (.ref t)) (ht : H t = some (.tup (q.map kV))) (lq : q.length ≤ 20)
    (k : ∀ H' p, Ex H H' → H' p = some (.tup ((as ++ q).map kV)) → D.rt (.ref p) H') : tRet (tOp (rCatA K) (tTup ta) tb) D σ H :=
  h H (Ex.refl _) _ fun H1 e1 => ⟨Evl.sz_of (by rw [List.length_map]; omega), fun p hp => hb _ (e1.trans (Ex.new hp)) _ fun H2 e2 => by
    have e3 := e1.trans ((Ex.new (o := .tup (as.map kV)) hp).trans e2)
    refine ⟨p, t, as.map kV, q.map kV, rfl, rfl, Evl.st_of (e2 _ _ upd_same), Evl.st_of (e3 _ _ ht), Evl.sz_of (by rw [List.length_map, List.length_map]; omega), fun z => absurd (List.map_eq_nil_iff.mp z) ne, fun _ z => ?_, fun _ _ p2 hp2 => ?_⟩
    · have : q = [] := List.map_eq_nil_iff.mp z
      subst this
      rw [List.append_nil] at k
      exact k H2 p e3 (e2 _ _ upd_same)
    · exact k _ p2 (e3.trans (Ex.new hp2)) (by rw [upd_same, List.map_append])⟩
/-! ### rows, as the law reads them -/
noncomputable def lrA (R : Fl → G → Option (List Key)) (f : Fl) (i : List (Str × Fl)) (ids : List Int) (r : G) : Option (List Key) := match rowLW f (i.map (·.1)) ids r with
  | some p => some p
  | none => i.findSome? fun q => (R q.2 (atG (atG r "lists") q.1)).map fun p => Sum.inr ("lists" : Str) :: Sum.inr q.1 :: p
noncomputable def LR : Nat → Fl → List (Str × Fl) → G → Option (List Key)
  | 0, _, _, _ => none
  | m + 1, f, i, g => rowsW (lrA (fun f' g' => LR m f' [] g') f i) g
theorem lrA_some {R : Fl → G → Option (List Key)} {f : Fl} {i : List (Str × Fl)} {ids : List Int} {r : G} {p : List Key} (h : rowLW f (i.map (·.1)) ids r = some p) : lrA R f i ids r = some p := by
  unfold lrA; rw [h]
theorem lrA_none {R : Fl → G → Option (List Key)} {f : Fl} {i : List (Str × Fl)} {ids : List Int} {r : G} (h : rowLW f (i.map (·.1)) ids r = none) : lrA R f i ids r = i.findSome? fun q => (R q.2 (atG (atG r "lists") q.1)).map fun p => Sum.inr ("lists" : Str) :: Sum.inr q.1 :: p := by
  unfold lrA; rw [h]
theorem words_len {ns : List Str} {ok : Str → G → Bool} {g : G} {p : List Key} (h : wordsW ns ok g = some p) : p.length ≤ 1 := by
  unfold wordsW at h
  split at h
  · obtain ⟨n, _, hn⟩ := List.exists_of_findSome?_eq_some h
    split at hn
    · cases hn
    · cases hn; exact Nat.le_refl _
  · cases h; decide
theorem rowLW_len {f : Fl} {inn : List Str} {ids : List Int} {g : G} {p : List Key} (h : rowLW f inn ids g = some p) : p.length ≤ 2 := by
  unfold rowLW at h
  cases c : rowW f ids g with
  | some q =>
    rw [c] at h
    cases h
    unfold rowW at c
    split at c
    · split at c
      · cases c2 : wordsW (srt (f.map (·.1))) (fldOk f) (atG g "fields") with
        | none => rw [c2] at c; cases c
        | some r =>
          rw [c2] at c
          cases c
          have := words_len c2
          show r.length + 1 ≤ 2
          omega
      · cases c; decide
    · cases c; decide
  | none =>
    rw [c] at h
    have h : (if hasN (atG g "lists") inn = true then none else some [Sum.inr ("lists" : Str)]) = some p := h
    split at h
    · cases h
    · cases h; decide
theorem rowsF_len {A : List Int → G → Option (List Key)} {b : Nat} (hA : ∀ ids r p, A ids r = some p → p.length ≤ b) : ∀ {rs : List G} {k : Nat} {ids : List Int} {p : List Key}, rowsF A rs k ids = some p → p.length ≤ b + 1
  | [], _, _, _, h => nomatch h
  | x :: rs, k, ids, p, h => by
    unfold rowsF at h
    cases c : A ids x with
    | some q =>
      rw [c] at h
      cases h
      have := hA _ _ _ c
      show q.length + 1 ≤ _
      omega
    | none =>
      rw [c] at h
      exact rowsF_len hA h
theorem LR_len : ∀ {m : Nat} {f : Fl} {i : List (Str × Fl)} {g : G} {p : List Key}, LR m f i g = some p → p.length ≤ 3 * m
  | 0, _, _, _, _, h => nomatch h
  | m + 1, f, i, g, p, h => by
    have h : rowsW (lrA (fun f' g' => LR m f' [] g') f i) g = some p := h
    cases g with
    | lst rs =>
      have := rowsF_len (b := 3 * m + 2) (fun ids r q hq => by
        cases c : rowLW f (i.map (·.1)) ids r with
        | some q' =>
          rw [lrA_some c] at hq
          cases hq
          have := rowLW_len c
          omega
        | none =>
          rw [lrA_none c] at hq
          obtain ⟨x, _, hx⟩ := List.exists_of_findSome?_eq_some hq
          cases c2 : LR m x.2 [] (atG (atG r "lists") x.1) with
          | none => rw [c2] at hx; cases hx
          | some q' =>
            rw [c2] at hx
            cases hx
            have := LR_len c2
            show q'.length + 1 + 1 ≤ _
            omega) (show rowsF (lrA (fun f' g' => LR m f' [] g') f i) rs 0 [] = some p from h)
      omega
    | _ => cases h; exact Nat.zero_le _
theorem rowLW_id {f : Fl} {inn : List Str} {ids : List Int} {g : G} (h : rowLW f inn ids g = none) : hasN g ["id", "fields", "lists"] = true ∧ atG g "id" = .int (idOf g) ∧ hasN (atG g "lists") inn = true := by
  unfold rowLW at h
  cases c : rowW f ids g with
  | some p => rw [c] at h; cases h
  | none =>
    rw [c] at h
    have h : (if hasN (atG g "lists") inn = true then none else some [Sum.inr ("lists" : Str)]) = none := h
    have h2 : hasN (atG g "lists") inn = true := by
      by_cases c : hasN (atG g "lists") inn = true
      · exact c
      · rw [if_neg c] at h; cases h
    unfold rowW at c
    by_cases c1 : hasN g ["id", "fields", "lists"] = true
    · rw [if_pos c1] at c
      by_cases c2 : idOk (atG g "id") ids = true
      · refine ⟨c1, ?_, h2⟩
        unfold idOf
        unfold idOk at c2
        cases hh : atG g "id" with
        | int i => rfl
        | _ => rw [hh] at c2; cases c2
      · rw [if_neg c2] at c; cases c
    · rw [if_neg c1] at c; cases c
section
variable {P : Program} {w : World} {K : PySem.W.Frag} {mg : Str → Option Value} {base : Heap} {C_Shape C_InvalidData C_InvalidShape C_StayError : Addr}
def spRs (m : Nat) : Sp := fun vs H Q _ => ∃ (dv v : V) (nD : Nat) (PD : Addr → Prop) (d : D) (f : Fl) (i : List (Str × Fl)) (mm n : Nat) (S : Addr → Prop) (g : G), vs = [dv, v] ∧ Rep H nD PD d dv ∧ ls1 d f i ∧ okFl f ∧ i.length ≤ 1 ∧ (∀ q ∈ i, okFl q.2) ∧ (m ≤ 1 → i = []) ∧ 1 ≤ m ∧ m ≤ 3 ∧ Rp H mm n S g v ∧ mm ≤ 8 ∧ (∀ b, S b → ¬ PD b) ∧ saysL (LR m f i g) H Q
theorem ok__law_rows_wrong0 (T : Txt K mg C_Shape C_InvalidData C_InvalidShape C_StayError) (R : Prg K mg C_Shape C_InvalidData C_InvalidShape C_StayError) : ∃ f fd, Fn P w K mg base "_law_rows_wrong" 2 ["_law_described", "_law_rows_here"] (spRs 0) f fd := by
  obtain ⟨f, fd, at_, F, kp⟩ := R._law_rows_wrong
  refine ⟨f, fd, F.ok sc__law_rows_wrong (fun vs H Q E h => ?_) (fun cdv A outer s H vs Q E hr h => ?_), at_, kp, F.binds (fun _ _ _ _ _ _ us hl => match us, hl with | [_, _], _ => rfl)⟩
  · obtain ⟨dv, v, nD, PD, d, f, i, mm, n, S, g, rfl, _⟩ := h; rfl
  · obtain ⟨dv, v, nD, PD, d, f, i, mm, n, S, g, rfl, _, _, _, _, _, _, h, _⟩ := h; exact absurd h (by decide)
theorem ok__law_rows_wrong (T : Txt K mg C_Shape C_InvalidData C_InvalidShape C_StayError) (R : Prg K mg C_Shape C_InvalidData C_InvalidShape C_StayError) {m lv : Nat} (hlv : 2 ≤ lv) (G0 : ∃ f fd, Fn P w K mg base "_law_rows_wrong" lv ["_law_described", "_law_rows_here"] (spRs m) f fd) : ∃ f fd, Fn P w K mg base "_law_rows_wrong" (lv + 1) ["_law_described", "_law_rows_here"] (spRs (m + 1)) f fd := by
  obtain ⟨_, _, G__law_rows_wrong⟩ := G0
  obtain ⟨_, _, G__law_row_wrong⟩ := ok__law_row_wrong (P := P) (w := w) (base := base) T R
  obtain ⟨f, fd, at_, F, kp⟩ := R._law_rows_wrong
  refine ⟨f, fd, F.ok sc__law_rows_wrong (fun vs H Q E h => ?_) (fun cdv A outer s H vs Q E hr h => ?_), at_, kp, F.binds (fun _ _ _ _ _ _ us hl => match us, hl with | [_, _], _ => rfl)⟩
  · obtain ⟨dv, v, nD, PD, d, f, i, mm, n, S, g, rfl, _⟩ := h; rfl
  · obtain ⟨dv, v, nD, PD, d, fl, inn, mm, n, S, g, rfl, hd, ⟨ld, li, rfl, hl2, hfd, hin, hpi⟩, okf, il, iok, hm0, _, m3, hv, hm, hdis, k⟩ := h
    cases nD with
    | zero => exact hd.elim
    | succ nD =>
    obtain ⟨da, des, rfl, _, hda, _, dpr⟩ := id hd
    obtain ⟨vi, hvi, hri⟩ := rep_entry dpr hin
    cases nD with
    | zero => exact hri.elim
    | succ nD =>
    obtain ⟨ia, ies, rfl, Pia, hia, _, ipr⟩ := id hri
    have nia : ia ≠ da := Pia.2
    refine ⟨_, (pss_cons (ps_if (pt_not (pt_val (pe_callB (r := rIsi K) call_isi (by rfl) T.isinstance (by decide +kernel) (pa_cons (pv 1) (pa_cons (pe_bltn (v := .ty "list") (by rfl) T.list boot_list rfl) pa_nil))))) (pss_one (ps_ret (pe_tup pa_nil))) pss_nil)
  (pss_cons (ps_set (i := 2) sc__law_rows_wrong.nd rfl (Or.inl rfl) (pe_lst pa_nil))
  (pss_cons (ps_for PassesOwn.never rfl (pi_range1 (by rfl) T.range (pa_cons (pe_callB (r := rLenA K) call_len (by rfl) T.len (by decide +kernel) (pa_cons (pv 1) pa_nil)) pa_nil)) (pg_name (i := 3) sc__law_rows_wrong.nd rfl (Or.inl rfl))
    (pss_cons (ps_set (i := 4) sc__law_rows_wrong.nd rfl (Or.inl rfl) (pcl G__law_row_wrong hr (pa_cons (pv 0) (pa_cons (pe_ix (r := rIxL K) ix_list (pv 1) (pv 3) (fun _ _ => rfl)) (pa_cons (pv 2) pa_nil)))))
  (pss_cons (ps_if (pt_cmpR op_notN (pv 4) pe_non (nomark _)) (pss_one (ps_ret (pe_op (r := rCatA K) op_catA (pe_tup (pa_cons (pv 3) pa_nil)) (pv 4)))) pss_nil)
  (pss_cons (ps_expr (show PE _ _ (tBM K _ _ _ _) from pe_bm PySem.F.plainAttrs_list PySem.F.slot_list_append PySem.F.type_list_append mt_append (pv 2) (pa_cons (pe_dget (hu_of hr) (pe_ix (r := rIxL K) ix_list (pv 1) (pv 3) (fun _ _ => rfl)) pe_str (fun _ _ => rfl)) pa_nil)))
  (pss_one (ps_lock (ps_for PassesOwn.never rfl (pi_keys (pe_dget (hu_of hr) (pv 0) pe_str (fun _ _ => rfl))) (pg_name (i := 5) sc__law_rows_wrong.nd rfl (Or.inl rfl))
    (pss_cons (ps_set (i := 4) sc__law_rows_wrong.nd rfl (Or.inl rfl) (pcl G__law_rows_wrong hr (pa_cons (pe_dget (hu_of hr) (pe_dget (hu_of hr) (pv 0) pe_str (fun _ _ => rfl)) (pv 5) (fun _ _ => rfl)) (pa_cons (pe_dget (hu_of hr) (pe_dget (hu_of hr) (pe_ix (r := rIxL K) ix_list (pv 1) (pv 3) (fun _ _ => rfl)) pe_str (fun _ _ => rfl)) (pv 5) (fun _ _ => rfl)) pa_nil))))
  (pss_one (ps_if (pt_cmpR op_notN (pv 4) pe_non (nomark _)) (pss_one (ps_ret (pe_op (r := rCatA K) op_catA (pe_tup (pa_cons (pv 3) (pa_cons pe_str (pa_cons (pv 5) pa_nil)))) (pv 4)))) pss_nil))))))))))
  (pss_one (ps_ret pe_non))))), ?_⟩
    refine Evl.q_when (b := !isLstG g) (Evl.et_not (Evl.et_B (ev_isC (Evl.ev_var rfl) hv (isK_lst g)))) (fun hb H1 e1 => ?_) fun hb H1 e1 => ?_
    · have hw : LR (m + 1) fl inn g = some [] := by
        show rowsW _ g = _
        cases g <;> first | rfl | (simp [isLstG] at hb)
      exact s_retP (q := []) Evl.ea_nil rfl (by show 0 ≤ 100; decide) fun H' t e' ht => k.2 [] hw H' t (e1.trans e') ht
    obtain ⟨rs, rfl⟩ : ∃ rs, g = .lst rs := by
      cases g with
      | lst l => exact ⟨l, rfl⟩
      | _ => simp [isLstG] at hb
    obtain ⟨n, rfl⟩ := rp_pos hv
    obtain ⟨ra, xs, rfl, _, hra, lrs, pp⟩ := id hv
    have lx := pair_len pp
    have hlen : ∀ q, LR (m + 1) fl inn (.lst rs) = some q → q.length ≤ 3 * (m + 1) := fun q h => LR_len h
    have hw0 : LR (m + 1) fl inn (.lst rs) = rowsF (lrA (fun f' g' => LR m f' [] g') fl inn) rs 0 [] := rfl
    rw [hw0] at k hlen
    generalize hA : lrA (fun f' g' => LR m f' [] g') fl inn = A at k hlen
    clear hw0
    refine Evl.q_asgL (xs := []) (Evl.el_lst Evl.ea_nil (Nat.zero_le _)) fun er H2 her e2 her2 => ?_
    have erH : H er = none := Evl.fresh_back e1 her
    have nra : ra ≠ er := fun z => by rw [z, erH] at hra; cases hra
    have nda : da ≠ er := fun z => by rw [z, erH] at hda; cases hda
    have nie : ia ≠ er := fun z => by rw [z, erH] at hia; cases hia
    have e02 := e1.trans e2
    have lie : ies.length = inn.length := by rw [← pair_len ipr, pair_len hpi]
    have lin : (li.map (·.1)) = inn.map (·.1) := names_eq hpi
    have ik : ies.map (fun e => e.1) = (inn.map (·.1)).map Sum.inr := by rw [keys_of ipr, lin]
    have ind : (inn.map (·.1)).Nodup := by
      match inn, il with
      | [], _ => exact List.nodup_nil
      | [x], _ => simp
    have iknd : (ies.map fun e => e.1).Nodup := by rw [ik]; exact List.Pairwise.map _ (fun a b h z => h (Sum.inr.inj z)) ind
    refine Evl.q_forR1 (n := (xs.length : Int)) (Evl.ea_cons (ev_lenL (Evl.ev_var rfl) (.inl (Evl.sq_of (e02 _ _ hra)))) Evl.ea_nil) ⟨by omega, by omega⟩ (fun i σ' H' => ∃ o3 o4 o5, σ' = [some (.ref da), some (.ref ra), some (.ref er), o3, o4, o5] ∧ Ex H H' ∧ H' er = some (.lst (((rs.take i).map idOf).map V.int)) ∧ rowsF A rs 0 [] = rowsF A (rs.drop i) i ((rs.take i).map idOf))
      (fun H3 e3 => ⟨_, _, _, rfl, e02.trans e3, e3 _ _ her2, rfl⟩) (fun i σ' H3 hi pv => ?_) fun σ' H3 pv => ?_
    · obtain ⟨o3, o4, o5, rfl, e3, her3, hF⟩ := pv
      have hi2 : i < rs.length := by omega
      obtain ⟨row, hrow⟩ : ∃ row, rs[i]? = some row := ⟨_, List.getElem?_eq_getElem hi2⟩
      obtain ⟨xv, hxv, hrr⟩ := pair_at pp hrow
      rw [rowsF_drop hrow] at hF
      have getr : ∀ {σ : L2.St} {H9 : Hp}, σ[1]? = some (some (V.ref ra)) → σ[3]? = some (some (V.int (i : Int))) → H9 ra = some (.lst xs) → Ev (tOp (rIxL K) (tVar 1) (tVar 3)) σ H9 xv := fun h1 h3 h9 => Evl.ev_op (Evl.ev_var h1) (Evl.ev_var h3) (Evl.rv_ixL (Evl.sq_of h9) (atI_nat hxv))
      -- the row alone
      refine q_asgM ?_
      refine ⟨_, rfl, getr rfl rfl (e3 _ _ hra) _ (Ex.refl _) _ fun H4 e4 => ⟨_, rfl, ?_⟩⟩
      have e04 := e3.trans e4
      refine ⟨.ref da, xv, er, nD + 1 + 1, PD, .dic ld, fl, inn, mm, n, _, row, (rs.take i).map idOf, rfl, rep_ex e04 hd, ⟨ld, li, rfl, hl2, hfd, hin, hpi⟩, okf, il, rp_ex e04 hrr, hm, e4 _ _ her3, ?_⟩
      refine ⟨fun hno H5 e5 => ?_, fun q hq H5 t e5 ht => ?_⟩
      · -- right so far
        obtain ⟨hn, hid, hnl⟩ := rowLW_id hno
        have hAn : A ((rs.take i).map idOf) row = inn.findSome? fun q => (LR m q.2 [] (atG (atG row "lists") q.1)).map fun p => Sum.inr ("lists" : Str) :: Sum.inr q.1 :: p := by rw [← hA]; exact lrA_none hno
        refine Evl.q_when (b := false) (Evl.et_is (Evl.et_test (Evl.ev_op (Evl.ev_var rfl) Evl.ev_c rv_notN)) rfl) (fun h => nomatch h) fun _ H6 e6 => ?_
        have e06 := e04.trans (e5.trans e6)
        have her6 : H6 er = some (.lst (((rs.take i).map idOf).map V.int)) := e6 _ _ (e5 _ _ (e4 _ _ her3))
        obtain ⟨rv, res, vn, n', rfl, hrv, hvn, rfl, hrn⟩ := atg hrr hn (nm := "id") (by decide)
        rw [hid] at hrn
        obtain ⟨n', rfl⟩ := rp_pos hrn
        have evn : vn = .int (idOf row) := hrn
        subst evn
        obtain ⟨rv2, res2, vl, n2, e2v, hrv2, hvl, en2, hrl⟩ := atg hrr hn (nm := "lists") (by decide)
        cases e2v
        rw [hrv] at hrv2; cases hrv2
        obtain rfl : n' + 1 = n2 := by omega
        refine Evl.q_app (l := er) her6 (Evl.ev_var rfl) (ev_get (getr rfl rfl (e06 _ _ hra)) Evl.ev_c (.inl (e06 _ _ hrv)) hvn) (by rw [List.length_map, List.length_map, List.length_take]; omega) fun H7 e7 => ?_
        have her7 : (upd H7 er (.lst (((rs.take i).map idOf).map V.int ++ [V.int (idOf row)]))) er = some (.lst (((rs.take (i + 1)).map idOf).map V.int)) := by
          rw [upd_same, take_snocG hrow, List.map_append, List.map_append]; rfl
        have e08 : Ex H (upd H7 er (.lst (((rs.take i).map idOf).map V.int ++ [V.int (idOf row)]))) := Ex.mut (e06.trans e7) erH
        generalize (upd H7 er (.lst (((rs.take i).map idOf).map V.int ++ [V.int (idOf row)]))) = H8 at her7 e08 ⊢
        have hia8 := e08 _ _ hia
        refine for_lock (J := fun od => Itk ia od ies) (xs := fun _ => none) (d := ia) (es := ies) hia8 (fun od R r => ⟨.ref da, rfl, da, .ref ia, rfl, .inl ⟨des, Sum.inr "inner", .inl (by rw [upd_ne nia.symm]; exact e08 _ _ hda), rfl, hvi.symm⟩, ia, od, rfl, .inl ⟨ies, upd_same, r⟩⟩) (fun od => walk_keys)
          (fun od j σ' Hy => ∃ o4 o5, σ' = [some (.ref da), some (.ref ra), some (.ref er), some (.int (i : Int)), o4, o5] ∧ Ex (upd H8 ia (.frz od (.dK ies))) Hy ∧ ∀ q ∈ inn.take j, LR m q.2 [] (atG (atG row "lists") q.1) = none)
          (fun od => ⟨_, _, rfl, Ex.refl _, fun q h => nomatch h⟩) (fun od j σ' Hy _ ⟨_, _, _, e, _⟩ => e _ _ upd_same) (fun od j x σ' H0 Hy hlt pv y => ?_) fun od σ' Hy pv => ?_
        · obtain ⟨o4, o5, rfl, e9, hok⟩ := pv
          obtain ⟨rfl, kk, vj, hkv, rfl⟩ := y
          obtain ⟨⟨nm, dj⟩, hdj, hk, hrepj⟩ := pair_back ipr hkv
          have hk : kk = Sum.inr nm := hk
          subst hk
          obtain ⟨⟨nm', fj⟩, hij, e2', hl0⟩ := pair_at hpi hdj
          have e2' : nm = nm' := e2'
          subst e2'
          have m1 : 1 ≤ m := by
            cases m with
            | zero => rw [hm0 (by decide)] at hij; cases hij
            | succ m => omega
          have hvj : valV ies (Sum.inr nm : Key) = some vj := valV_atK iknd hkv
          have e09 : Ex (upd H ia (.frz od (.dK ies))) Hy := (Ex.both e08).trans e9
          have hday : Hy da = some (.dK des) := e09 _ _ (by rw [upd_ne nia.symm]; exact hda)
          have hiay : Hy ia = some (.frz od (.dK ies)) := e9 _ _ upd_same
          have nria : ra ≠ ia := fun z => by rw [z, hia] at hra; cases hra
          have hray : Hy ra = some (.lst xs) := e09 _ _ (by rw [upd_ne nria]; exact hra)
          have nS : ∀ b, S b → b ≠ ia := fun b hb z => hdis b hb (z ▸ Pia.1)
          have hrrY := rp_ex e09 (rp_lock (u := .frz od (.dK ies)) hia (fun b z => nS b z) hrr)
          obtain ⟨rvY, resY, vlY, nY, eY, hrvY, hvlY, enY, hrlY⟩ := atg hrrY hn (nm := "lists") (by decide)
          have nmm : nm ∈ inn.map (·.1) := List.mem_map.mpr ⟨_, List.mem_of_getElem? hij, rfl⟩
          obtain ⟨laY, lesY, vdY, n3, rfl, hlaY, hvdY, rfl, hrdY⟩ := atg hrlY hnl nmm
          obtain ⟨l0, rfl, l02, l0f, l0i⟩ := hl0
          refine gname_go ?_
          refine q_asgM ?_
          refine ev_get (ev_get (Evl.ev_var rfl) Evl.ev_c (.inl hday) hvi) (Evl.ev_var rfl) (.inr ⟨od, hiay⟩) hvj _ (Ex.refl _) _ fun H10 e10 => ?_
          refine ev_get (ev_get (Evl.ev_is (getr rfl rfl (e10 _ _ hray)) eY) Evl.ev_c (.inl (e10 _ _ hrvY)) hvlY) (Evl.ev_var rfl) (.inl (e10 _ _ hlaY)) hvdY _ (Ex.refl _) _ fun H11 e11 => ?_
          have e911 := e10.trans e11
          have hrY : Rp H11 mm n3 (fun b => (S b ∧ b ≠ rvY) ∧ b ≠ laY) (atG (atG row "lists") nm) vdY := rp_ex e911 hrdY
          have hdY : Rep H11 nD (fun b => (PD b ∧ b ≠ da) ∧ b ≠ ia) (.dic l0) vj := rep_ex (e09.trans e911) (rep_lock hia (fun b z => z.2) hrepj)
          have fin : ∀ {q : List Key}, LR m fj [] (atG (atG row "lists") nm) = some q → rowsF A rs 0 [] = some (Sum.inl (i : Int) :: Sum.inr ("lists" : Str) :: Sum.inr nm :: q) := fun {q} hq => by
            have h1 : A ((rs.take i).map idOf) row = some (Sum.inr ("lists" : Str) :: Sum.inr nm :: q) := hAn.trans (fs_take (i := j) (x := (nm, fj)) (fun z hz => by rw [hok z hz]; rfl) hij (by rw [hq]; rfl))
            rw [hF, h1]
          refine ⟨vj, vdY, nD, _, .dic l0, fj, [], mm, n3, _, _, rfl, hdY, ⟨l0, [], rfl, l02, l0f, l0i, .nil⟩, iok _ (List.mem_of_getElem? hij), Nat.zero_le _, fun q hq => (nomatch hq), fun _ => rfl, m1, by omega, hrY, hm, fun b hb hp => hdis b hb.1.1 hp.1.1, fun hno H12 e12 => ?_, fun q hq H12 t e12 ht => ?_⟩
          · refine Evl.s_when (b := false) (Evl.et_is (Evl.et_test (Evl.ev_op (Evl.ev_var rfl) Evl.ev_c rv_notN)) rfl) (fun h => nomatch h) fun _ H13 e13 => ?_
            refine ⟨_, _, rfl, e9.trans (e911.trans (e12.trans e13)), fun z hz => ?_⟩
            rw [take_snocG hij] at hz
            rcases List.mem_append.mp hz with hz | hz
            · exact hok z hz
            · rw [List.mem_singleton.mp hz]; exact hno
          · refine Evl.s_when (b := true) (Evl.et_is (Evl.et_test (Evl.ev_op (Evl.ev_var rfl) Evl.ev_c rv_notN)) rfl) (fun _ H13 e13 => ?_) fun h => nomatch h
            have lq := hlen _ (fin hq)
            have lq : q.length + 1 + 1 + 1 ≤ 3 * (m + 1) := lq
            refine s_retC (as := [Sum.inl (i : Int), Sum.inr ("lists" : Str), Sum.inr nm]) (q := q) (t := t) (Evl.ea_cons (Evl.ev_var rfl) (Evl.ea_cons Evl.ev_c (Evl.ea_cons (Evl.ev_var rfl) Evl.ea_nil))) (fun h => nomatch h) (by show 3 ≤ 10; decide) (Evl.ev_var rfl) (e13 _ _ ht) (by omega) fun H' p e' hp => ?_
            have eall := e9.trans (e911.trans (e12.trans (e13.trans e')))
            have hiaF : H' ia = some (.frz od (.dK ies)) := eall _ _ upd_same
            have npi : p ≠ ia := fun z => by rw [z, hiaF] at hp; cases hp
            exact ⟨hiaF, k.2 _ (fin hq) _ p (e08.trans (unlock hia8 eall)) (by rw [upd_ne npi]; exact hp)⟩
        · obtain ⟨o4, o5, rfl, e9, hok⟩ := pv
          rw [lie, List.take_of_length_le (Nat.le_refl _)] at hok
          have e10 := unlock hia8 e9
          refine ⟨_, _, _, rfl, e08.trans e10, e10 _ _ her7, ?_⟩
          rw [hF, hAn, fs_none fun q hq => by rw [hok q hq]; rfl, take_snocG hrow, List.map_append]
          rfl
      · -- wrong by itself
        have hAs : A ((rs.take i).map idOf) row = some q := by rw [← hA]; exact lrA_some hq
        rw [hAs] at hF
        refine Evl.q_when (b := true) (Evl.et_is (Evl.et_test (Evl.ev_op (Evl.ev_var rfl) Evl.ev_c rv_notN)) rfl) (fun _ H6 e6 => ?_) fun h => nomatch h
        have := rowLW_len hq
        exact s_retC (as := [Sum.inl (i : Int)]) (q := q) (t := t) (Evl.ea_cons (Evl.ev_var rfl) Evl.ea_nil) (fun h => nomatch h) (by show 1 ≤ 10; decide) (Evl.ev_var rfl) (e6 _ _ ht) (by omega) fun H' p e' hp => k.2 _ hF H' p (e04.trans (e5.trans (e6.trans e'))) hp
    · obtain ⟨o3, o4, o5, rfl, e3, her3, hF⟩ := pv
      have : (xs.length : Int).toNat = rs.length := by omega
      rw [this, List.drop_of_length_le (Nat.le_refl _)] at hF
      exact Evl.s_ret Evl.ev_c fun H4 e4 => k.1 hF H4 (e3.trans e4)
end
end Pk

namespace Pk
open PySem PySem.Spec PyProof.Rows L2 Ssb
open Evl (Ex Ev EvT EvL EvA EvU)
noncomputable def LRn (s : Sh) (nm : Str) (g : G) : Option (List Key) := match s.lookup nm with
  | some q => LR 2 q.1 q.2 g
  | none => none
noncomputable def dataLW (fl : List Str) (s : Sh) (g : G) : Option (List Key) :=
  if hasN g ["flags", "lists"] = true then
    match wordsW (srt fl) (fun _ x => isBlG x) (atG g "flags") with
    | some p => some (Sum.inr ("flags" : Str) :: p)
    | none => if hasN (atG g "lists") (srt (s.map (·.1))) = true then (srt (s.map (·.1))).findSome? (fun nm => (LRn s nm (atG (atG g "lists") nm)).map fun p => Sum.inr ("lists" : Str) :: Sum.inr nm :: p) else some [Sum.inr ("lists" : Str)]
  else some []
theorem fs_map {α β γ : Type} {F : α → Option β} {f : β → γ} : ∀ {xs : List α}, (xs.findSome? F).map f = xs.findSome? fun x => (F x).map f
  | [] => rfl
  | x :: xs => by
    rw [List.findSome?_cons, List.findSome?_cons]
    cases F x with
    | none => exact fs_map
    | some b => rfl
theorem fs_cong {α β : Type} {F G : α → Option β} : ∀ {xs : List α}, (∀ x ∈ xs, F x = G x) → xs.findSome? F = xs.findSome? G
  | [], _ => rfl
  | x :: xs, h => by
    rw [List.findSome?_cons, List.findSome?_cons, h x List.mem_cons_self, fs_cong fun y hy => h y (List.mem_cons_of_mem _ hy)]
theorem isK_bl (g : G) : isK g "bool" = isBlG g := by
  cases g with
  | non => exact (show (kitB "NoneType" "bool").getD false = false by decide +kernel)
  | bl b => exact (show (kitB "bool" "bool").getD false = true by decide +kernel)
  | int b => exact (show (kitB "int" "bool").getD false = false by decide +kernel)
  | str b => exact (show (kitB "str" "bool").getD false = false by decide +kernel)
  | lst b => exact (show (kitB "list" "bool").getD false = false by decide +kernel)
  | tup b => exact (show (kitB "tuple" "bool").getD false = false by decide +kernel)
  | dic b => exact (show (kitB "dict" "bool").getD false = false by decide +kernel)
theorem rowA_lrA {R : Str → G → Option (List Key)} {R' : Fl → G → Option (List Key)} {f : Fl} {i : List (Str × Fl)} (hi : i.length ≤ 1) (h : ∀ q ∈ i, ∀ x, R q.1 x = R' q.2 x) (ids : List Int) (g : G) : rowA f R (srt (i.map (·.1))) ids g = lrA R' f i ids g := by
  have es : srt (i.map (·.1)) = i.map (·.1) := srt_one (by rw [List.length_map]; exact hi)
  rw [es]
  unfold rowA lrA rowLW
  cases rowW f ids g with
  | some p => rfl
  | none =>
    show (listsW R (i.map (·.1)) (atG g "lists")).map (Sum.inr ("lists" : Str) :: ·) = _
    unfold listsW
    by_cases c : hasN (atG g "lists") (i.map (·.1)) = true
    · rw [if_pos c]
      simp only [c, if_true]
      match i, hi, h with
      | [], _, _ => rfl
      | [q], _, h =>
        rw [List.map_cons, List.map_nil, List.findSome?_cons, List.findSome?_cons, h q List.mem_cons_self]
        cases R' q.2 (atG (atG g "lists") q.1) <;> rfl
    · rw [if_neg c]
      simp only [c, if_false]
      rfl
theorem rowsW_cong {A B : List Int → G → Option (List Key)} (h : ∀ ids g, A ids g = B ids g) (g : G) : rowsW A g = rowsW B g := by
  have : A = B := by funext ids g; exact h ids g
  rw [this]
theorem RW_LR1 {s : Sh} (hs : okSh s) {p : Str × Fl × List (Str × Fl)} (hp : p ∈ s) {q : Str × Fl} (hq : q ∈ p.2.2) (x : G) : RW 1 s q.1 x = LR 1 q.2 [] x := by
  show rowsW (rowA (fieldsOf s q.1) (RW 0 s) (srt (kids s (some q.1)))) x = rowsW (lrA (fun f' g' => LR 0 f' [] g') q.2 []) x
  have e1 : fieldsOf s q.1 = q.2 := fieldsOf_eq hs.2.1 (row_in hp hq)
  have e2 : kids s (some q.1) = ([] : List (Str × Fl)).map (·.1) := List.eq_nil_of_length_eq_zero (under_in hs.2.1 hp hq).1
  rw [e1, e2]
  exact rowsW_cong (fun ids g => rowA_lrA (i := []) (by decide) (fun q hq => absurd hq List.not_mem_nil) ids g) x
theorem RW_LR2 {s : Sh} (hs : okSh s) {p : Str × Fl × List (Str × Fl)} (hp : p ∈ s) (x : G) : RW 2 s p.1 x = LR 2 p.2.1 p.2.2 x := by
  show rowsW (rowA (fieldsOf s p.1) (RW 1 s) (srt (kids s (some p.1)))) x = rowsW (lrA (fun f' g' => LR 1 f' [] g') p.2.1 p.2.2) x
  have il := (hs.2.2 p hp).2.2.1
  have e1 : fieldsOf s p.1 = p.2.1 := fieldsOf_eq hs.2.1 (row_out hp)
  have e2 : kids s (some p.1) = p.2.2.map (·.1) := kids_eq (under_out (nd_outer hs) hp) il
  rw [e1, e2]
  exact rowsW_cong (fun ids g => rowA_lrA il (fun q hq x => RW_LR1 hs hp hq x) ids g) x
theorem data_same {fl : List Str} {s : Sh} (hs : okSh s) (g : G) : dataW fl s g = dataLW fl s g := by
  unfold dataW dataLW
  by_cases c : hasN g ["flags", "lists"] = true
  · rw [if_pos c, if_pos c]
    cases wordsW (srt fl) (fun _ x => isBlG x) (atG g "flags") with
    | some p => rfl
    | none =>
      show (listsW (RW 2 s) (srt (kids s none)) (atG g "lists")).map (Sum.inr ("lists" : Str) :: ·) = _
      rw [kids_none]
      unfold listsW
      by_cases c2 : hasN (atG g "lists") (srt (s.map (·.1))) = true
      · rw [if_pos c2]
        simp only [c2, if_true]
        rw [fs_map]
        refine fs_cong fun nm hnm => ?_
        obtain ⟨p, hp, rfl⟩ := List.mem_map.mp (srt_perm.mem_iff.mp hnm)
        have hl : s.lookup p.1 = some p.2 := lk_nd (nd_outer hs) hp
        have : LRn s p.1 = LR 2 p.2.1 p.2.2 := by unfold LRn; rw [hl]
        rw [this, RW_LR2 hs hp]
        cases LR 2 p.2.1 p.2.2 (atG (atG g "lists") p.1) <;> rfl
      · rw [if_neg c2]
        simp only [c2, if_false]
        rfl
  · rw [if_neg c, if_neg c]
theorem dataLW_len {fl : List Str} {s : Sh} {g : G} {p : List Key} (h : dataLW fl s g = some p) : p.length ≤ 8 := by
  unfold dataLW at h
  split at h
  · cases c : wordsW (srt fl) (fun _ x => isBlG x) (atG g "flags") with
    | some q =>
      rw [c] at h
      cases h
      have := words_len c
      show q.length + 1 ≤ 8
      omega
    | none =>
      simp only [c] at h
      split at h
      · obtain ⟨nm, _, hx⟩ := List.exists_of_findSome?_eq_some h
        cases c2 : LRn s nm (atG (atG g "lists") nm) with
        | none => rw [c2] at hx; cases hx
        | some q =>
          rw [c2] at hx
          cases hx
          have : q.length ≤ 3 * 2 := by
            unfold LRn at c2
            cases hl : s.lookup nm with
            | none => rw [hl] at c2; cases c2
            | some r => rw [hl] at c2; exact LR_len c2
          show q.length + 1 + 1 ≤ 8
          omega
      · cases h; decide
  · cases h; decide
section
variable {P : Program} {w : World} {K : PySem.W.Frag} {mg : Str → Option Value} {base : Heap} {C_Shape C_InvalidData C_InvalidShape C_StayError : Addr}
def spDw : Sp := fun vs H Q _ => ∃ (fa : Addr) (lv v : V) (fl : List Str) (nD : Nat) (PD : Addr → Prop) (dl : D) (s : Sh) (mm n : Nat) (S : Addr → Prop) (g : G), vs = [.ref fa, lv, v] ∧ H fa = some (.lst (fl.map V.str)) ∧ fl.length ≤ 2 ∧ Rep H nD PD dl lv ∧ shD dl s ∧ okSh s ∧ Rp H mm n S g v ∧ mm ≤ 8 ∧ (∀ b, S b → ¬ PD b) ∧ saysL (dataLW fl s g) H Q
theorem ok__law_data_wrong (T : Txt K mg C_Shape C_InvalidData C_InvalidShape C_StayError) (R : Prg K mg C_Shape C_InvalidData C_InvalidShape C_StayError) : ∃ f fd, Fn P w K mg base "_law_data_wrong" 5 ["_law_flags", "_law_lists_here", "_law_data_here"] spDw f fd := by
  obtain ⟨_, _, G__law_rows_wrong⟩ := ok__law_rows_wrong (P := P) (w := w) (base := base) T R (m := 1) (lv := 3) (by decide) (ok__law_rows_wrong T R (m := 0) (lv := 2) (by decide) (ok__law_rows_wrong0 T R))
  obtain ⟨_, _, G__law_has⟩ := ok__law_has (P := P) (w := w) (base := base) T R
  obtain ⟨f, fd, at_, F, kp⟩ := R._law_data_wrong
  refine ⟨f, fd, F.ok sc__law_data_wrong (fun vs H Q E h => ?_) (fun cdv A outer s H vs Q E hr h => ?_), at_, kp, F.binds (fun _ _ _ _ _ _ us hl => match us, hl with | [_, _, _], _ => rfl)⟩
  · obtain ⟨fa, lv, v, fl, nD, PD, dl, s, mm, n, S, g, rfl, _⟩ := h; rfl
  · obtain ⟨fa, lv, v, fl, nD, PD, dl, z, mm, n, S, g, rfl, hfa, fl2, hl, ⟨ll, rfl, hpl⟩, hz, hv, hm, hdis, k⟩ := h
    cases nD with
    | zero => exact hl.elim
    | succ nD =>
    obtain ⟨la, les, rfl, _, hla, _, lpr⟩ := id hl
    have lk : les.map (fun e => e.1) = (z.map (·.1)).map Sum.inr := by
      rw [keys_of lpr]; congr 1
      exact pair_names hpl
    have zl : (z.map (·.1)).length ≤ 2 := by rw [List.length_map]; exact hz.1
    refine ⟨_, (pss_cons (ps_if (pt_not (pt_val (pcl G__law_has hr (pa_cons (pv 2) (pa_cons (pe_lst (pa_cons pe_str (pa_cons pe_str pa_nil))) pa_nil))))) (pss_one (ps_ret (pe_tup pa_nil))) pss_nil)
  (pss_cons (ps_if (pt_not (pt_val (pcl G__law_has hr (pa_cons (pe_dget (hu_of hr) (pv 2) pe_str (fun _ _ => rfl)) (pa_cons (pv 0) pa_nil))))) (pss_one (ps_ret (pe_tup (pa_cons pe_str pa_nil)))) pss_nil)
  (pss_cons (ps_for PassesOwn.never rfl (show PI _ _ _ (iList K _) from pi_list (pe_callB (r := rSortedS K) cr_sortedS (by rfl) T.sorted (by decide +kernel) (pa_cons (pv 0) pa_nil))) (pg_name (i := 3) sc__law_data_wrong.nd rfl (Or.inl rfl))
    (pss_one (ps_if (pt_not (pt_val (pe_callB (r := rIsi K) call_isi (by rfl) T.isinstance (by decide +kernel) (pa_cons (pe_dget (hu_of hr) (pe_dget (hu_of hr) (pv 2) pe_str (fun _ _ => rfl)) (pv 3) (fun _ _ => rfl)) (pa_cons (pe_bltn (v := .ty "bool") (by rfl) T.bool boot_bool rfl) pa_nil))))) (pss_one (ps_ret (pe_tup (pa_cons pe_str (pa_cons (pv 3) pa_nil))))) pss_nil)))
  (pss_cons (ps_if (pt_not (pt_val (pcl G__law_has hr (pa_cons (pe_dget (hu_of hr) (pv 2) pe_str (fun _ _ => rfl)) (pa_cons (pe_callB (r := rSortDK) (call_sortedD rfl) (by rfl) T.sorted (by decide +kernel) (pa_cons (pv 1) pa_nil)) pa_nil))))) (pss_one (ps_ret (pe_tup (pa_cons pe_str pa_nil)))) pss_nil)
  (pss_cons (ps_for PassesOwn.never rfl (show PI _ _ _ (iList K _) from pi_list (pe_callB (r := rSortDK) (call_sortedD rfl) (by rfl) T.sorted (by decide +kernel) (pa_cons (pv 1) pa_nil))) (pg_name (i := 4) sc__law_data_wrong.nd rfl (Or.inl rfl))
    (pss_cons (ps_set (i := 5) sc__law_data_wrong.nd rfl (Or.inl rfl) (pcl G__law_rows_wrong hr (pa_cons (pe_dget (hu_of hr) (pv 1) (pv 4) (fun _ _ => rfl)) (pa_cons (pe_dget (hu_of hr) (pe_dget (hu_of hr) (pv 2) pe_str (fun _ _ => rfl)) (pv 4) (fun _ _ => rfl)) pa_nil))))
  (pss_one (ps_if (pt_cmpR op_notN (pv 5) pe_non (nomark _)) (pss_one (ps_ret (pe_op (r := rCatA K) op_catA (pe_tup (pa_cons pe_str (pa_cons (pv 4) pa_nil))) (pv 5)))) pss_nil))))
  (pss_one (ps_ret pe_non))))))), ?_⟩
    refine Evl.q_when (b := !hasN g ["flags", "lists"]) (Evl.et_not (Evl.et_B (ev_fnL (Evl.ev_var rfl) (Evl.el_lst (Evl.ea_cons Evl.ev_c (Evl.ea_cons Evl.ev_c Evl.ea_nil)) (by show 2 ≤ 100000; decide)) fun a H4 e4 ha Q q => ⟨_, ⟨_, mm, n, S, g, a, ["flags", "lists"], rfl, rp_ex e4 hv, Evl.sq_of ha, by show 2 ≤ 1000; decide, rfl⟩, q⟩))) (fun hb H1 e1 => ?_) fun hb H1 e1 => ?_
    · have hw : dataLW fl z g = some [] := by
        unfold dataLW; rw [if_neg (by simpa using hb)]
      exact s_retP (q := []) Evl.ea_nil rfl (by show 0 ≤ 100; decide) fun H' t e' ht => k.2 [] hw H' t (e1.trans e') ht
    have hn : hasN g ["flags", "lists"] = true := by simpa using hb
    obtain ⟨dv, des2, vf, n', rfl, hdv, hvf, rfl, hrf⟩ := atg hv hn (nm := "flags") (by decide)
    obtain ⟨dv3, des4, vl, n3, e3v, hdv3, hvl, en3, hrl⟩ := atg hv hn (nm := "lists") (by decide)
    cases e3v
    rw [hdv] at hdv3; cases hdv3
    obtain rfl : n' = n3 := by omega
    refine Evl.q_when (b := !hasN (atG g "flags") (srt fl)) (Evl.et_not (Evl.et_B (spB_ev (Evl.ea_cons (ev_get (Evl.ev_var rfl) Evl.ev_c (.inl (e1 _ _ hdv)) hvf) (Evl.ea_cons (Evl.ev_var rfl) Evl.ea_nil)) fun H2 e2 => ⟨vf, mm, n', _, atG g "flags", fa, fl, rfl, rp_ex (e1.trans e2) hrf, Evl.sq_of ((e1.trans e2) _ _ hfa), by omega, hasN_perm srt_perm⟩))) (fun hb H2 e2 => ?_) fun hb H2 e2 => ?_
    · have hw : dataLW fl z g = some [Sum.inr ("flags" : Str)] := by
        unfold dataLW wordsW; rw [if_pos hn, if_neg (by simpa using hb)]
      exact s_retP (q := [Sum.inr ("flags" : Str)]) (Evl.ea_cons Evl.ev_c Evl.ea_nil) rfl (by show 1 ≤ 100; decide) fun H' t e' ht => k.2 _ hw H' t (e1.trans (e2.trans e')) ht
    have hnf : hasN (atG g "flags") (srt fl) = true := by simpa using hb
    have e02 := e1.trans e2
    refine ⟨_, rfl, fa, fl, rfl, Evl.sq_of (e02 _ _ hfa), by omega, fun ys b perm so hb => ?_⟩
    have ey := srt_eq fl2 perm so
    have hww : wordsW (srt fl) (fun _ x => isBlG x) (atG g "flags") = ys.findSome? (fun n => if isBlG (atG (atG g "flags") n) = true then none else some [Sum.inr n]) := by
      rw [ey]; unfold wordsW; rw [if_pos hnf]
    have e7 : Ex H (upd H2 b (.lst (ys.map V.str))) := e02.trans (Ex.new hb)
    have hb7 : (upd H2 b (.lst (ys.map V.str))) b = some (.lst (ys.map V.str)) := upd_same
    generalize (upd H2 b (.lst (ys.map V.str))) = H7 at e7 hb7 ⊢
    refine ⟨b, rfl, ⟨_, Evl.sq_of hb7⟩, for_list (K := K) (a := b) (xs := ys.map V.str) (fun i σ' H' => ∃ o, σ' = [some (.ref fa), some (.ref la), some (.ref dv), o, none, none] ∧ Ex H7 H' ∧ ∀ y ∈ ys.take i, isBlG (atG (atG g "flags") y) = true) ⟨_, rfl, Ex.refl _, fun y h => nomatch h⟩ (fun i σ' H' _ ⟨_, _, e, _⟩ => Evl.sq_of (e _ _ hb7)) (fun i x σ' H' hx ⟨o, eσ, e, hok⟩ => ?_) fun σ' H' ⟨_, eσ, e, hok⟩ => ?_⟩
    · subst eσ
      rw [List.getElem?_map] at hx
      cases hy : ys[i]? with
      | none => rw [hy] at hx; cases hx
      | some y =>
      rw [hy] at hx
      cases hx
      have ym := List.mem_of_getElem? hy
      obtain ⟨dff, dffs, vd, n4, rfl, hdff, hvd, rfl, hrd⟩ := atg hrf hnf (ey ▸ ym)
      have e8 := e7.trans e
      refine gname_go ?_
      refine Evl.s_when (b := !isBlG (atG (atG g "flags") y)) (Evl.et_not (Evl.et_B (ev_isC (ev_get (ev_get (Evl.ev_var rfl) Evl.ev_c (.inl (e8 _ _ hdv)) hvf) (Evl.ev_var rfl) (.inl (e8 _ _ hdff)) hvd) (rp_ex e8 hrd) (isK_bl _)))) (fun hb H9 e9 => ?_) fun hb H9 e9 => ?_
      · have hf : isBlG (atG (atG g "flags") y) = false := by simpa using hb
        have hw2 := hww.trans (fs_take (i := i) (x := y) (p := [Sum.inr y]) (fun z hz => by rw [if_pos (hok z hz)]) hy (by rw [hf]; rfl))
        have hw : dataLW fl z g = some [Sum.inr ("flags" : Str), Sum.inr y] := by
          unfold dataLW; rw [if_pos hn, hw2]
        exact s_retP (q := [Sum.inr ("flags" : Str), Sum.inr y]) (Evl.ea_cons Evl.ev_c (Evl.ea_cons (Evl.ev_var rfl) Evl.ea_nil)) rfl (by show 2 ≤ 100; decide) fun H' t e' ht => k.2 _ hw H' t (e8.trans (e9.trans e')) ht
      · have hf : isBlG (atG (atG g "flags") y) = true := by simpa using hb
        refine ⟨_, rfl, e.trans e9, fun z hz => ?_⟩
        rw [take_snocG hy] at hz
        rcases List.mem_append.mp hz with hz | hz
        · exact hok z hz
        · rw [List.mem_singleton.mp hz]; exact hf
    · subst eσ
      rw [List.length_map, List.take_of_length_le (Nat.le_refl _)] at hok
      have hw2 : wordsW (srt fl) (fun _ x => isBlG x) (atG g "flags") = none := hww.trans (fs_none fun y hy => by rw [if_pos (hok y hy)])
      have rw3 : dataLW fl z g = if hasN (atG g "lists") (srt (z.map (·.1))) = true then (srt (z.map (·.1))).findSome? (fun nm => (LRn z nm (atG (atG g "lists") nm)).map fun p => Sum.inr ("lists" : Str) :: Sum.inr nm :: p) else some [Sum.inr ("lists" : Str)] := by
        unfold dataLW; rw [if_pos hn, hw2]
      have e8 := e7.trans e
      dsimp only
      refine Evl.q_when (b := !hasN (atG g "lists") (srt (z.map (·.1)))) (Evl.et_not (Evl.et_B fun H9 e9 Q' q' => ?_)) (fun hb H9 e9 => ?_) fun hb H9 e9 => ?_
      · refine ev_get (Evl.ev_var rfl) Evl.ev_c (.inl (e8 _ _ hdv)) hvl H9 e9 _ fun H10 e10 => ?_
        refine ⟨_, rfl, la, les, z.map (·.1), rfl, .inl ((e8.trans (e9.trans e10)) _ _ hla), lk, by omega, fun zs c perm2 so2 hc => ?_⟩
        have ez := srt_eq zl perm2 so2
        exact ⟨hasN (atG g "lists") (srt (z.map (·.1))), ⟨vl, mm, n', _, atG g "lists", c, zs, rfl, rp_ex (e8.trans (e9.trans (e10.trans (Ex.new hc)))) hrl, Evl.sq_of upd_same, by rw [perm2.length_eq]; omega, by rw [ez]⟩, fun H12 e12 => q' H12 (e10.trans ((Ex.new hc).trans e12))⟩
      · exact s_retP (q := [Sum.inr ("lists" : Str)]) (Evl.ea_cons Evl.ev_c Evl.ea_nil) rfl (by show 1 ≤ 100; decide) fun H' t e' ht => k.2 _ (by rw [rw3, if_neg (by simpa using hb)]) H' t (e8.trans (e9.trans e')) ht
      have hnl : hasN (atG g "lists") (srt (z.map (·.1))) = true := by simpa using hb
      rw [if_pos hnl] at rw3
      have e09 := e8.trans e9
      refine ⟨_, rfl, la, les, z.map (·.1), rfl, .inl (e09 _ _ hla), lk, by omega, fun zs c perm2 so2 hc => ?_⟩
      have ez := srt_eq zl perm2 so2
      have e11 : Ex H (upd H9 c (.lst (zs.map V.str))) := e09.trans (Ex.new hc)
      have hc11 : (upd H9 c (.lst (zs.map V.str))) c = some (.lst (zs.map V.str)) := upd_same
      generalize (upd H9 c (.lst (zs.map V.str))) = H11 at e11 hc11 ⊢
      refine ⟨c, rfl, ⟨_, Evl.sq_of hc11⟩, for_list (K := K) (a := c) (xs := zs.map V.str) (fun i σ' H' => ∃ o3 o4 o5, σ' = [some (.ref fa), some (.ref la), some (.ref dv), o3, o4, o5] ∧ Ex H11 H' ∧ ∀ y ∈ zs.take i, LRn z y (atG (atG g "lists") y) = none) ⟨_, _, _, rfl, Ex.refl _, fun y h => nomatch h⟩ (fun i σ' H' _ ⟨_, _, _, _, e, _⟩ => Evl.sq_of (e _ _ hc11)) (fun i x σ' H' hx ⟨o3, o4, o5, eσ, e, hok2⟩ => ?_) fun σ' H' ⟨_, _, _, eσ, e, hok2⟩ => ?_⟩
      · subst eσ
        rw [List.getElem?_map] at hx
        cases hy : zs[i]? with
        | none => rw [hy] at hx; cases hx
        | some y =>
        rw [hy] at hx
        cases hx
        have ym := List.mem_of_getElem? hy
        obtain ⟨p, hp, rfl⟩ := List.mem_map.mp (perm2.mem_iff.mp ym)
        obtain ⟨dff, dffs, vd, n4, rfl, hdff, hvd, rfl, hrd⟩ := atg hrl hnl (ez ▸ ym)
        have hlk : z.lookup p.1 = some p.2 := lk_nd (nd_outer hz) hp
        have eL : LRn z p.1 = LR 2 p.2.1 p.2.2 := by unfold LRn; rw [hlk]
        obtain ⟨t, ht, et⟩ := List.mem_iff_getElem.mp hp
        obtain ⟨⟨nm, dj⟩, hdj, hnm, hls⟩ := pair_back hpl (i := t) (b := p) (by rw [← et]; exact List.getElem?_eq_getElem ht)
        have hnm : nm = p.1 := hnm
        subst hnm
        obtain ⟨⟨kk, vj⟩, hej, hkk, hrj⟩ := pair_at lpr hdj
        have hkk : kk = Sum.inr p.1 := hkk
        subst hkk
        have hvj : valV les (Sum.inr p.1 : Key) = some vj := valV_atK (by rw [lk]; exact List.Pairwise.map _ (fun a b h z => h (Sum.inr.inj z)) (nd_outer hz)) hej
        have e12 := e11.trans e
        refine gname_go ?_
        refine q_asgM ?_
        refine ev_get (Evl.ev_var rfl) (Evl.ev_var rfl) (.inl (e12 _ _ hla)) hvj _ (Ex.refl _) _ fun H13 e13 => ?_
        refine ev_get (ev_get (Evl.ev_var rfl) Evl.ev_c (.inl ((e12.trans e13) _ _ hdv)) hvl) (Evl.ev_var rfl) (.inl ((e12.trans e13) _ _ hdff)) hvd _ (Ex.refl _) _ fun H14 e14 => ?_
        have e014 := e12.trans (e13.trans e14)
        have okp := hz.2.2 p hp
        refine ⟨vj, vd, nD, _, dj, p.2.1, p.2.2, mm, n4, _, _, rfl, rep_ex e014 hrj, hls, okp.2.1, okp.2.2.1, fun q hq => (okp.2.2.2 q hq).2, fun h => absurd h (by decide), by decide, by decide, rp_ex e014 hrd, hm, fun b hb hp' => hdis b hb.1.1 hp'.1, ?_⟩
        have fin : ∀ {q : List Key}, LR 2 p.2.1 p.2.2 (atG (atG g "lists") p.1) = some q → dataLW fl z g = some (Sum.inr ("lists" : Str) :: Sum.inr p.1 :: q) := fun {q} hq => by
          rw [rw3, ← ez]
          exact fs_take (i := i) (x := p.1) (fun z' hz' => by rw [hok2 z' hz']; rfl) hy (by rw [eL, hq]; rfl)
        refine ⟨fun hno H15 e15 => ?_, fun q hq H15 t e15 ht => ?_⟩
        · refine Evl.s_when (b := false) (Evl.et_is (Evl.et_test (Evl.ev_op (Evl.ev_var rfl) Evl.ev_c rv_notN)) rfl) (fun h => nomatch h) fun _ H16 e16 => ?_
          refine ⟨_, _, _, rfl, e.trans (e13.trans (e14.trans (e15.trans e16))), fun z' hz' => ?_⟩
          rw [take_snocG hy] at hz'
          rcases List.mem_append.mp hz' with hz' | hz'
          · exact hok2 z' hz'
          · rw [List.mem_singleton.mp hz', eL]; exact hno
        · refine Evl.s_when (b := true) (Evl.et_is (Evl.et_test (Evl.ev_op (Evl.ev_var rfl) Evl.ev_c rv_notN)) rfl) (fun _ H16 e16 => ?_) fun h => nomatch h
          have lq := LR_len hq
          exact s_retC (as := [Sum.inr ("lists" : Str), Sum.inr p.1]) (q := q) (t := t) (Evl.ea_cons Evl.ev_c (Evl.ea_cons (Evl.ev_var rfl) Evl.ea_nil)) (fun h => nomatch h) (by show 2 ≤ 10; decide) (Evl.ev_var rfl) (e16 _ _ ht) (by omega) fun H' p' e' hp' => k.2 _ (fin hq) H' p' (e014.trans (e15.trans (e16.trans e'))) hp'
      · rw [List.length_map, List.take_of_length_le (Nat.le_refl _)] at hok2
        dsimp only
        refine Evl.s_ret Evl.ev_c fun H13 e13 => ?_
        exact k.1 (by rw [rw3, ← ez]; exact fs_none fun y hy => by rw [hok2 y hy]; rfl) H13 (e11.trans (e.trans e13))
end
end Pk

namespace Pk
open PySem PySem.Spec PyProof.Rows L2 Ssb
open Evl (Ex Ev EvT EvL EvA EvU)
/-! ### the keys of a path are short -/
def shK (p : List Key) : Prop := ∀ k ∈ p, kLen k ≤ 8
theorem shK_cons {k : Key} {p : List Key} (h : kLen k ≤ 8) (hp : shK p) : shK (k :: p) := fun x hx => by
  rcases List.mem_cons.mp hx with rfl | hx
  · exact h
  · exact hp x hx
theorem words_k {ns : List Str} {ok : Str → G → Bool} {g : G} {p : List Key} (hn : ∀ n ∈ ns, n.length ≤ 8) (h : wordsW ns ok g = some p) : shK p := by
  unfold wordsW at h
  split at h
  · obtain ⟨n, hm, hx⟩ := List.exists_of_findSome?_eq_some h
    split at hx
    · cases hx
    · cases hx; exact shK_cons (hn n hm) fun k hk => nomatch hk
  · cases h; exact fun k hk => nomatch hk
theorem rowLW_k {f : Fl} {inn : List Str} {ids : List Int} {g : G} {p : List Key} (hf : ∀ n ∈ f.map (·.1), n.length ≤ 8) (h : rowLW f inn ids g = some p) : shK p := by
  unfold rowLW at h
  cases c : rowW f ids g with
  | some q =>
    rw [c] at h
    cases h
    unfold rowW at c
    split at c
    · split at c
      · cases c2 : wordsW (srt (f.map (·.1))) (fldOk f) (atG g "fields") with
        | none => rw [c2] at c; cases c
        | some r =>
          rw [c2] at c
          cases c
          exact shK_cons (by decide) (words_k (fun n hm => hf n (srt_perm.mem_iff.mp hm)) c2)
      · cases c; exact shK_cons (by decide) fun k hk => nomatch hk
    · cases c; exact fun k hk => nomatch hk
  | none =>
    rw [c] at h
    have h : (if hasN (atG g "lists") inn = true then none else some [Sum.inr ("lists" : Str)]) = some p := h
    split at h
    · cases h
    · cases h; exact shK_cons (by decide) fun k hk => nomatch hk
theorem rowsF_k {A : List Int → G → Option (List Key)} (hA : ∀ ids r p, A ids r = some p → shK p) : ∀ {rs : List G} {k : Nat} {ids : List Int} {p : List Key}, rowsF A rs k ids = some p → shK p
  | [], _, _, _, h => nomatch h
  | x :: rs, k, ids, p, h => by
    unfold rowsF at h
    cases c : A ids x with
    | some q =>
      rw [c] at h
      cases h
      exact shK_cons (Nat.zero_le _) (hA _ _ _ c)
    | none =>
      rw [c] at h
      exact rowsF_k hA h
theorem lrA_k {R : Fl → G → Option (List Key)} {f : Fl} {i : List (Str × Fl)} {ids : List Int} {g : G} {p : List Key} (hf : ∀ n ∈ f.map (·.1), n.length ≤ 8) (hi : ∀ q ∈ i, q.1.length ≤ 8) (hR : ∀ q ∈ i, ∀ x p, R q.2 x = some p → shK p) (h : lrA R f i ids g = some p) : shK p := by
  cases c : rowLW f (i.map (·.1)) ids g with
  | some q =>
    rw [lrA_some c] at h
    cases h
    exact rowLW_k hf c
  | none =>
    rw [lrA_none c] at h
    obtain ⟨x, hm, hx⟩ := List.exists_of_findSome?_eq_some h
    cases c2 : R x.2 (atG (atG g "lists") x.1) with
    | none => rw [c2] at hx; cases hx
    | some q =>
      rw [c2] at hx
      cases hx
      exact shK_cons (by decide) (shK_cons (hi x hm) (hR x hm _ _ c2))
theorem rowsW_k {A : List Int → G → Option (List Key)} (hA : ∀ ids r p, A ids r = some p → shK p) {g : G} {p : List Key} (h : rowsW A g = some p) : shK p := by
  cases g with
  | lst rs => exact rowsF_k hA (show rowsF A rs 0 [] = some p from h)
  | _ => cases h; exact fun k hk => nomatch hk
theorem fl_k {f : Fl} (h : okFl f) : ∀ n ∈ f.map (·.1), n.length ≤ 8 := fun n hn => by
  obtain ⟨q, hq, rfl⟩ := List.mem_map.mp hn
  exact (h.2.2 q hq).1.2.1
theorem dataLW_k {fl : List Str} {s : Sh} {g : G} {p : List Key} (hfl : ∀ x ∈ fl, isW x) (hs : okSh s) (h : dataLW fl s g = some p) : shK p := by
  unfold dataLW at h
  split at h
  · cases c : wordsW (srt fl) (fun _ x => isBlG x) (atG g "flags") with
    | some q =>
      rw [c] at h
      cases h
      exact shK_cons (by decide) (words_k (fun n hn => (hfl n (srt_perm.mem_iff.mp hn)).2.1) c)
    | none =>
      simp only [c] at h
      split at h
      · obtain ⟨nm, hm, hx⟩ := List.exists_of_findSome?_eq_some h
        obtain ⟨r, hr, rfl⟩ := List.mem_map.mp (srt_perm.mem_iff.mp hm)
        have okr := hs.2.2 r hr
        cases c2 : LRn s r.1 (atG (atG g "lists") r.1) with
        | none => rw [c2] at hx; cases hx
        | some q =>
          rw [c2] at hx
          cases hx
          have e : LRn s r.1 = LR 2 r.2.1 r.2.2 := by unfold LRn; rw [lk_nd (nd_outer hs) hr]
          rw [e] at c2
          refine shK_cons (by decide) (shK_cons okr.1.2.1 ?_)
          have c2 : rowsW (lrA (fun f' g' => LR 1 f' [] g') r.2.1 r.2.2) (atG (atG g "lists") r.1) = some q := c2
          refine rowsW_k (fun ids x p hp => lrA_k (fl_k okr.2.1) (fun q hq => (okr.2.2.2 q hq).1.2.1) (fun q hq x p hp => ?_) hp) c2
          have hp : rowsW (lrA (fun f' g' => LR 0 f' [] g') q.2 []) x = some p := hp
          exact rowsW_k (fun ids x p hp => lrA_k (fl_k (okr.2.2.2 q hq).2) (fun q hq => absurd hq List.not_mem_nil) (fun q hq => absurd hq List.not_mem_nil) hp) hp
      · cases h; exact shK_cons (by decide) fun k hk => nomatch hk
  · cases h; exact fun k hk => nomatch hk
def noneX : WX := fun _ _ _ _ => False
theorem takes_none {X : Cx} : Takes X noneX := fun u s' ⟨_, _, _, _, _, _, _, _, _, _, _, _, _, _, _, _, w⟩ => w.elim
/-- a path as a datum -/
theorem rp_path {H : Hp} {q : List Key} {t : Addr} {S : Addr → Prop} (h : H t = some (.tup (q.map kV))) (hk : shK q) (hl : q.length ≤ 20) : Rp H 20 2 S (.tup (q.map kG)) (.ref t) := by
  refine ⟨t, q.map kV, rfl, h, by rw [List.length_map]; exact hl, ?_⟩
  clear h hl
  induction q with
  | nil => exact .nil
  | cons k q ih => exact .cons (rp_key (Nat.le_trans (hk k List.mem_cons_self) (by decide))) (ih fun x hx => hk x (List.mem_cons_of_mem _ hx))
section
variable {P : Program} {w : World} {K : PySem.W.Frag} {mg : Str → Option Value} {base : Heap} {C_Shape C_InvalidData C_InvalidShape C_StayError : Addr}
/-- what is due -/
def dueV (H : Hp) (res : Option (List Key)) (v : V) : Prop := (res = none → v = .non) ∧ ∀ q, res = some q → ∃ t, v = .ref t ∧ H t = some (.tup (q.map kV))
def spAsk (C : Addr) : Sp := fun vs H Q _ => ∃ (p : Addr) (v dv : V) (mm n : Nat) (S : Addr → Prop) (g : G) (fl : List Str) (s : Sh) (S' : Addr → Prop), vs = [.ref p, v, dv] ∧ ShapeAt C H p fl s S' ∧ fl.length ≤ 2 ∧ fl.Nodup ∧ (∀ x ∈ fl, isW x) ∧ okSh s ∧ Rp H mm n S g v ∧ mm ≤ 8 ∧ dueV H (dataW fl s g) dv ∧ ∀ H', Ex H H' → Q (.bl true) H'
theorem ok__law_asked (T : Txt K mg C_Shape C_InvalidData C_InvalidShape C_StayError) (R : Prg K mg C_Shape C_InvalidData C_InvalidShape C_StayError) : ∃ f fd, Fn P w K mg base "_law_asked" 17 ["_law_shape", "_law_value", "_law_due"] (spAsk C_Shape) f fd := by
  obtain ⟨_, _, G_check⟩ := ok_checkX (P := P) (w := w) (base := base) T R
  obtain ⟨_, _, G__law_same⟩ := ok__law_same (P := P) (w := w) (base := base) T R 2
  obtain ⟨f, fd, at_, F, kp⟩ := R._law_asked
  refine ⟨f, fd, F.ok sc__law_asked (fun vs H Q E h => ?_) (fun cdv A outer s H vs Q E hr h => ?_), at_, kp, F.binds (fun _ _ _ _ _ _ us hl => match us, hl with | [_, _, _], _ => rfl)⟩
  · obtain ⟨p, v, dv, mm, n, S, g, fl, s, S', rfl, _⟩ := h; rfl
  · obtain ⟨p, v, dv, mm, n, S, g, fl, z, S', rfl, hS, fl2, fln, flW, hz, hv, hm, hdue, k⟩ := h
    refine ⟨_, (pss_cons (ps_set (i := 3) sc__law_asked.nd rfl (Or.inl rfl) pe_non)
  (pss_cons (ps_set (i := 4) sc__law_asked.nd rfl (Or.inl rfl) pe_int)
  (Evl.pss_cut (ps_try_keep2 (i := 5) rfl rfl sc__law_asked.nd rfl rfl ⟨by rfl, by decide, .inl T.at_InvalidShape⟩ ⟨by rfl, by decide, .inl T.at_StayError⟩ takes_none (fun W pn xe tk po => pss_one (ps_set (i := 4) sc__law_asked.nd rfl (Or.inl rfl) (pclX G_check tk hr (pa_cons (pv 0) (pa_cons (pv 1) pa_nil))))) (fun a oe cls d pn hz hf => pss_one (ps_set (i := 3) sc__law_asked.nd rfl (Or.inl rfl) (pv 5))))
  (pss_cons (ps_if (pt_cmpR op_isN (pv 2) pe_non (nomark _)) (pss_one (ps_ret (pe_and (pe_cmpR op_isN (pv 3) pe_non (nomark _)) (pe_one (pe_cmpR op_isN (pv 4) pe_non (nomark _)))))) pss_nil)
  (pss_one (ps_ret (pe_and (pe_callB (r := rIsiE K) call_isiE (by rfl) T.isinstance (by decide +kernel) (pa_cons (pv 3) (pa_cons (pe_glob (v := .ref C_InvalidData) rfl T.at_InvalidData rfl) pa_nil))) (pe_one (pcl G__law_same hr (pa_cons (pe_fldE T.xk_InvalidData.xf T.no_InvalidData_path (pv 3)) (pa_cons (pv 2) pa_nil))))))))))), ?_⟩
    refine Evl.q_asg Evl.ev_c fun H1 e1 => ?_
    refine Evl.q_asg Evl.ev_c fun H2 e2 => ?_
    have e02 := e1.trans e2
    refine ⟨fun σ' Hx => Ex H2 Hx ∧ ((dataW fl z g = none ∧ σ' = [some (.ref p), some v, some dv, some .non, some .non, none]) ∨
      ∃ q, dataW fl z g = some q ∧ ∃ ea d t, σ' = [some (.ref p), some v, some dv, some (.ref ea), some (.int 0), none] ∧ Hx ea = some (exk ea (.ref C_InvalidData) (some d)) ∧ Hx d = some (.xd [("path", .ref t)]) ∧ Hx t = some (.tup (q.map kV))), ?_, ?_⟩
    · refine ⟨_, rfl, _, rfl, p, v, mm, n, S, g, fl, z, S', rfl, hS.ex e02, fl2, fln, hz, rp_ex e02 hv, hm, fun hno H' e' => ⟨e', .inl ⟨hno, rfl⟩⟩, fun q hq H' t d e' ht hd => ⟨T.ex_InvalidData_InvalidShape, true, T.ex_InvalidData_StayError, fun _ ea hea => ?_, fun h => nomatch h⟩⟩
      have ne : d ≠ ea := fun z => by rw [← z, upd_same] at hea; cases hea
      have ntd : t ≠ d := fun z => by rw [z, hd] at ht; cases ht
      have nte : t ≠ ea := fun z => by rw [← z, upd_ne ntd, ht] at hea; cases hea
      exact ⟨_, rfl, e'.trans ((Ex.new hd).trans (Ex.new hea)), .inr ⟨q, hq, ea, d, t, rfl, upd_same, by rw [upd_ne ne, upd_same], by rw [upd_ne nte, upd_ne ntd]; exact ht⟩⟩
    · rintro σ' Hx ⟨ex, ⟨hno, rfl⟩ | ⟨q, hq, ea, d, t, rfl, hea, hd, ht⟩⟩
      · have edv := hdue.1 hno
        subst edv
        refine Evl.q_when (b := true) (Evl.et_is (Evl.et_test (Evl.ev_op (Evl.ev_var rfl) Evl.ev_c rv_isN)) rfl) (fun _ Hz ez => ?_) fun h => nomatch h
        exact Evl.s_ret (v := .bl true) (Evl.ev_is (Evl.ev_andV (a := true) (b := true) (Evl.ev_is (Evl.ev_op (Evl.ev_var rfl) Evl.ev_c rv_isN) rfl) fun _ => Evl.ev_is (Evl.ev_op (Evl.ev_var rfl) Evl.ev_c rv_isN) rfl) rfl) fun H' e' => k H' (e02.trans (ex.trans (ez.trans e')))
      · obtain ⟨td, rfl, htd⟩ := hdue.2 q hq
        have hkk : shK q := dataLW_k flW hz (by rw [← data_same hz]; exact hq)
        have hll : q.length ≤ 8 := dataLW_len (by rw [← data_same hz]; exact hq)
        refine Evl.q_when (b := false) (Evl.et_is (Evl.et_test (Evl.ev_op (Evl.ev_var rfl) Evl.ev_c rv_isN)) rfl) (fun h => nomatch h) fun _ Hz ez => ?_
        refine Evl.s_ret (v := .bl true) (Evl.ev_is (Evl.ev_andV (a := true) (b := true) (fun H1 e1 Q q => ⟨_, rfl, ea, C_InvalidData, d, _, _, _, true, rfl, .own C_InvalidData, T.xk_InvalidData, (ez.trans e1) _ _ hea, (ez.trans e1) _ _ hd, T.se_InvalidData, q H1 (Ex.refl _)⟩) fun _ H1 e1 Q q' => ?_) rfl) fun H' e' => k H' (e02.trans (ex.trans (ez.trans e')))
        exact ⟨_, rfl, ea, d, _, _, rfl, (ez.trans e1) _ _ hea, (ez.trans e1) _ _ hd, rfl, _, rfl, .ref t, .ref td, 20, fun _ => False, fun _ => False, .tup (q.map kG), rfl, rp_path ((ez.trans e1) _ _ ht) hkk (by omega), rp_path ((e02.trans (ex.trans (ez.trans e1))) _ _ htd) hkk (by omega), by decide, fun _ h => h.elim, fun H' e => q' H' e⟩
end
end Pk

namespace Pk
open PySem PySem.Spec PyProof.Rows L2 Ssb
open Evl (Ex Ev EvT EvL EvA EvU)
section
variable {X : Cx} {nm : Str} {k j : Nat} {ps : List Str} {sp : Sp} {f : Addr} {fd : FuncData} {p pos : Pos} {e : Expr} {es : List Expr} {t : TA} {C : Addr}
theorem pmk (G : Mt X.prog X.w X.K X.mg X.base C "__init__" k ps sp f fd) (h1 : PySem.W.makesIn X.K C = true) (h2 : PySem.W.keepIn X.K (.ref C) = true) (h3 : X.mg nm = some (.ref C)) (hr : Room j X.A) (ha : PA X (e :: es) t) (hj : k + 1 ≤ j := by first | decide | omega) (hg : Gl X nm := by rfl) (hdb : (nm == ("__debug__" : Str)) = false := by decide)
    (he : starEach (e :: es) X.env = (false, eval e X.env) :: starEach es X.env := by rfl) (hpl : (backTo pos (starEach es X.env)).any (·.1) = false := by rfl) : PE X (.Call (.Name nm p) (e :: es) [] pos) (tMake C sp [] E0 t) :=
  pe_make ⟨h1, G.mt.at_, G.mt.fn, h2⟩ G.ok (hr.mono hj) hg h3 G.bd .nil pass0 ha hdb he hpl
end
theorem pair_mem {α β : Type} {F : α → β → Prop} {l : List α} {m : List β} (p : Paired F l m) : ∀ x ∈ l, ∃ y ∈ m, F x y := fun x hx => by
  obtain ⟨t, ht, e⟩ := List.mem_iff_getElem.mp hx
  obtain ⟨b, hb, h⟩ := pair_at p (i := t) (a := x) (by rw [← e]; exact List.getElem?_eq_getElem ht)
  exact ⟨b, List.mem_of_getElem? hb, h⟩
theorem pl_fs {f : Fl} {fs : List (Str × D)} (h : okF2 f fs) : ∀ n, pl n (.dic fs)
  | 0 => trivial
  | n + 1 => ⟨h.2.1, fun p hp => by
    obtain ⟨x, hx⟩ := h.2.2 p hp
    rw [hx]
    cases n <;> trivial⟩
theorem pl_row {id : Int} {fs ls : List (Str × D)} (h1 : ∀ n, pl n (.dic fs)) (h2 : ∀ n, pl n (.dic ls)) : ∀ n, pl n (rowD id fs ls)
  | 0 => trivial
  | n + 1 => by
    refine ⟨?_, fun p hp => ?_⟩
    · have : (([("id", .int id), ("fields", .dic fs), ("lists", .dic ls)] : List (Str × D)).map (·.1)) = (["id", "fields", "lists"] : List Str) := rfl
      rw [this]; decide +kernel
    · rcases List.mem_cons.mp hp with rfl | hp
      · cases n <;> trivial
      · rcases List.mem_cons.mp hp with rfl | hp
        · exact h1 n
        · rw [List.mem_singleton.mp hp]; exact h2 n
theorem up_names (i : List (Str × Fl)) : (upS i).map (·.1) = i.map (·.1) := by unfold upS; rw [List.map_map]; rfl
def okI : Sh → Prop := fun s => (s.map (·.1)).Nodup ∧ ∀ p ∈ s, (p.2.2.map (·.1)).Nodup
theorem okI_up {i : List (Str × Fl)} (h : (i.map (·.1)).Nodup) : okI (upS i) := by
  refine ⟨by rw [up_names]; exact h, fun p hp => ?_⟩
  unfold upS at hp
  obtain ⟨q, _, rfl⟩ := List.mem_map.mp hp
  exact List.nodup_nil
theorem pl_gR : ∀ {m : Nat} {f : Fl} {i : List (Str × Fl)} {d : D}, gR m f i d → (i.map (·.1)).Nodup → ∀ n, pl n d
  | 0, _, _, _, h, _, _ => h.elim
  | m + 1, f, i, d, h, hi, n => by
    obtain ⟨rs, ids, rfl, _, _, prs⟩ := h
    cases n with
    | zero => trivial
    | succ n =>
    intro x hx
    obtain ⟨id, _, fs, ls, rfl, _, _, okf, pg⟩ := pair_mem prs x hx
    refine pl_row (pl_fs okf) (fun n => ?_) n
    cases n with
    | zero => trivial
    | succ n =>
    refine ⟨by rw [pair_names pg, up_names]; exact hi, fun p hp => ?_⟩
    obtain ⟨q, hq, _, hg⟩ := pair_mem pg p hp
    exact pl_gR hg ((okI_up hi).2 q hq) n
theorem two_cases {l : List (Str × D)} {a b : Str} {x y : D} (ne : a ≠ b) (h2 : l.length = 2) (ha : l.lookup a = some x) (hb : l.lookup b = some y) : l = [(a, x), (b, y)] ∨ l = [(b, y), (a, x)] := by
  match l, h2 with
  | [(j, u), (k, v)], _ =>
    rw [lk_cons] at ha hb
    by_cases c1 : a = j
    · rw [if_pos c1] at ha
      cases ha
      have c2 : ¬ b = j := fun e => ne (c1.trans e.symm)
      rw [if_neg c2, lk_cons] at hb
      by_cases c3 : b = k
      · rw [if_pos c3] at hb
        cases hb
        exact .inl (by rw [c1, c3])
      · rw [if_neg c3] at hb; cases hb
    · rw [if_neg c1, lk_cons] at ha
      by_cases c3 : a = k
      · rw [if_pos c3] at ha
        cases ha
        by_cases c2 : b = j
        · rw [if_pos c2] at hb; cases hb
          exact .inr (by rw [c2, c3])
        · rw [if_neg c2, lk_cons] at hb
          by_cases c4 : b = k
          · exact absurd (c3.trans c4.symm) ne
          · rw [if_neg c4] at hb; cases hb
      · rw [if_neg c3] at ha; cases ha
theorem kn_two {l : List (Str × D)} {x y : D} (h2 : l.length = 2) (ha : l.lookup ("fields" : Str) = some x) (hb : l.lookup ("inner" : Str) = some y) (hx : ∀ n, kn n x) (hy : ∀ n, kn n y) : ∀ n, kn n (.dic l)
  | 0 => trivial
  | n + 1 => by
    rcases two_cases nFI h2 ha hb with rfl | rfl
    · refine ⟨?_, fun p hp => ?_⟩
      · show ((["fields", "inner"] : List Str)).Nodup
        decide +kernel
      · rcases List.mem_cons.mp hp with rfl | hp
        · exact hx n
        · rw [List.mem_singleton.mp hp]; exact hy n
    · refine ⟨?_, fun p hp => ?_⟩
      · show ((["inner", "fields"] : List Str)).Nodup
        decide +kernel
      · rcases List.mem_cons.mp hp with rfl | hp
        · exact hy n
        · rw [List.mem_singleton.mp hp]; exact hx n
theorem kn_flD {f : Fl} (h : okFl f) : ∀ n, kn n (flD f)
  | 0 => trivial
  | n + 1 => by
    refine ⟨?_, fun p hp => ?_⟩
    · rw [List.map_map]; exact h.2.1
    · obtain ⟨q, _, rfl⟩ := List.mem_map.mp hp
      cases n with
      | zero => trivial
      | succ n =>
        intro x hx
        obtain ⟨s, _, rfl⟩ := List.mem_map.mp hx
        cases n <;> trivial
theorem kn_sh {d : D} {s : Sh} (h : shD d s) (hz : okSh s) : ∀ n, kn n d
  | 0 => by cases d <;> trivial
  | n + 1 => by
    obtain ⟨l, rfl, pr⟩ := h
    refine ⟨by rw [pair_names pr]; exact sh_nd hz.2.1, fun p hp => ?_⟩
    obtain ⟨q, hq, _, l', e, ep, l2, lf, li, pe⟩ := pair_mem pr p hp
    obtain ⟨_, okf, i1, iok⟩ := hz.2.2 q hq
    rw [ep]
    refine kn_two l2 lf li (kn_flD okf) (fun n => ?_) n
    cases n with
    | zero => trivial
    | succ n =>
    refine ⟨?_, fun p hp => ?_⟩
    · rw [pair_names pe]
      match q.2.2, i1 with
      | [], _ => exact List.nodup_nil
      | [x], _ => simp
    · obtain ⟨q2, hq2, _, l3, ep, l32, l3f, l3i⟩ := pair_mem pe p hp
      rw [ep]
      refine kn_two l32 l3f l3i (kn_flD (iok q2 hq2).2) (fun n => ?_) n
      cases n with
      | zero => trivial
      | succ n => exact ⟨List.nodup_nil, fun p hp => nomatch hp⟩

theorem pl_gD {fl : List Str} {s : Sh} {dd : D} (hz : okSh s) (fnd : fl.Nodup) (h : gD fl s dd) : ∀ n, pl n dd := fun n => by
  obtain ⟨fgs, ls, rfl, fk, fb, hg⟩ := h
  have ind : ∀ p ∈ s, (p.2.2.map (·.1)).Nodup := fun p hp => by
    have := (hz.2.2 p hp).2.2.1
    match p.2.2, this with
    | [], _ => exact List.nodup_nil
    | [x], _ => simp
  have plls : ∀ n, pl n (.dic ls) := fun n => by
    cases n with
    | zero => trivial
    | succ n =>
    refine ⟨by rw [pair_names hg]; exact nd_outer hz, fun p hp => ?_⟩
    obtain ⟨q, hq, _, hgr⟩ := pair_mem hg p hp
    exact pl_gR hgr (ind q hq) n
  have plf : ∀ n, pl n (.dic fgs) := fun n => by
    cases n with
    | zero => trivial
    | succ n =>
    refine ⟨by rw [fk]; exact fnd, fun p hp => ?_⟩
    obtain ⟨b, hb⟩ := fb p hp
    rw [hb]
    cases n <;> trivial
  cases n with
  | zero => trivial
  | succ n =>
  refine ⟨by show (["flags", "lists"] : List Str).Nodup; decide +kernel, fun p hp => ?_⟩
  rcases List.mem_cons.mp hp with rfl | hp
  · exact plf n
  · rw [List.mem_singleton.mp hp]; exact plls n
/-! ### nothing is long -/
theorem sz4 {x : Str} (h : isW x) : x.length ≤ sB 4 := Nat.le_trans h.2.1 (by decide)
theorem sz_fs {f : Fl} {fs : List (Str × D)} (hf : okFl f) (h : okF2 f fs) : ∀ n, szD 4 n (.dic fs)
  | 0 => trivial
  | n + 1 => by
    have sub : ∀ p ∈ fs, p.1 ∈ f.map (·.1) := fun p hp => by
      refine Classical.byContradiction fun no => ?_
      have nd2 : (p.1 :: f.map (·.1)).Nodup := List.nodup_cons.mpr ⟨no, hf.2.1⟩
      have := nd2.length_le_of_subset (l₂ := fs.map (·.1)) fun k hk => by
        rcases List.mem_cons.mp hk with rfl | hk
        · exact List.mem_map.mpr ⟨p, hp, rfl⟩
        · obtain ⟨q, hq, rfl⟩ := List.mem_map.mp hk
          obtain ⟨x, hx, _⟩ := h.1.2 q hq
          have : ∀ l : List (Str × D), l.lookup q.1 = some (.str x) → q.1 ∈ l.map (·.1) := by
            intro l
            induction l with
            | nil => intro h; simp [List.lookup] at h
            | cons a l ih =>
              intro h
              rw [lk_cons] at h
              by_cases c : q.1 = a.1
              · rw [c]; exact List.mem_cons_self
              · rw [if_neg c] at h; exact List.mem_cons_of_mem _ (ih h)
          exact this fs hx
      rw [List.length_cons, List.length_map, List.length_map] at this
      have := h.1.1
      omega
    refine ⟨by rw [h.1.1]; exact Nat.le_trans hf.1 (by decide), h.2.1, fun p hp => ?_⟩
    obtain ⟨q, hq, e⟩ := List.mem_map.mp (sub p hp)
    have okq := hf.2.2 q hq
    refine ⟨by rw [← e]; exact sz4 okq.1, ?_⟩
    obtain ⟨x, hx, hm⟩ := h.1.2 q hq
    obtain ⟨y, hy⟩ := h.2.2 p hp
    have lk : fs.lookup p.1 = some (.str y) := lk_of_mem h.2.1 (by rw [← hy]; exact hp)
    rw [← e, hx] at lk
    have exy : x = y := D.str.inj (Option.some.inj lk)
    rw [hy, ← exy]
    cases n with
    | zero => trivial
    | succ n => exact sz4 (okq.2.2.2.1 x hm)
theorem sz_row {id : Int} {fs ls : List (Str × D)} (h1 : ∀ n, szD 4 n (.dic fs)) (h2 : ∀ n, szD 4 n (.dic ls)) : ∀ n, szD 4 n (rowD id fs ls)
  | 0 => trivial
  | n + 1 => by
    refine ⟨by show 3 ≤ 4; decide, by show (["id", "fields", "lists"] : List Str).Nodup; decide +kernel, fun p hp => ?_⟩
    rcases List.mem_cons.mp hp with rfl | hp
    · exact ⟨by show 2 ≤ 256; decide, by cases n <;> trivial⟩
    · rcases List.mem_cons.mp hp with rfl | hp
      · exact ⟨by show 6 ≤ 256; decide, h1 n⟩
      · rw [List.mem_singleton.mp hp]; exact ⟨by show 5 ≤ 256; decide, h2 n⟩
theorem sz_gR : ∀ {m : Nat} {f : Fl} {i : List (Str × Fl)} {d : D}, gR m f i d → okFl f → i.length ≤ 1 → (∀ q ∈ i, isW q.1 ∧ okFl q.2) → ∀ n, szD 4 n d
  | 0, _, _, _, h, _, _, _, _ => h.elim
  | m + 1, f, i, d, h, hf, il, hi, n => by
    obtain ⟨rs, ids, rfl, _, l4, prs⟩ := h
    cases n with
    | zero => trivial
    | succ n =>
    refine ⟨l4, fun x hx => ?_⟩
    obtain ⟨id, _, fs, ls, rfl, _, _, okf, pg⟩ := pair_mem prs x hx
    refine sz_row (sz_fs hf okf) (fun n => ?_) n
    cases n with
    | zero => trivial
    | succ n =>
    have ll : ls.length = i.length := by rw [pair_len pg]; unfold upS; rw [List.length_map]
    have nm : ls.map (·.1) = i.map (·.1) := by rw [pair_names pg, up_names]
    refine ⟨by omega, by
      rw [nm]
      match i, il with
      | [], _ => exact List.nodup_nil
      | [x], _ => simp, fun p hp => ?_⟩
    obtain ⟨q, hq, e, hg⟩ := pair_mem pg p hp
    unfold upS at hq
    obtain ⟨q', hq', rfl⟩ := List.mem_map.mp hq
    have := hi q' hq'
    exact ⟨by rw [e]; exact sz4 this.1, sz_gR hg this.2 (Nat.zero_le _) (fun q hq => absurd hq List.not_mem_nil) n⟩
theorem sz_gD {fl : List Str} {s : Sh} {dd : D} (hz : okSh s) (fl2 : fl.length ≤ 2) (fnd : fl.Nodup) (flW : ∀ x ∈ fl, isW x) (h : gD fl s dd) : ∀ n, szD 4 n dd := fun n => by
  obtain ⟨fgs, ls, rfl, fk, fb, hg⟩ := h
  have lf : fgs.length = fl.length := by rw [← fk, List.length_map]
  have ll : ls.length = s.length := pair_len hg
  have s1 : ∀ n, szD 4 n (.dic ls) := fun n => by
    cases n with
    | zero => trivial
    | succ n =>
    refine ⟨by have := hz.1; omega, by rw [pair_names hg]; exact nd_outer hz, fun p hp => ?_⟩
    obtain ⟨q, hq, e, hgr⟩ := pair_mem hg p hp
    have okq := hz.2.2 q hq
    exact ⟨by rw [e]; exact sz4 okq.1, sz_gR hgr okq.2.1 okq.2.2.1 okq.2.2.2 n⟩
  have s2 : ∀ n, szD 4 n (.dic fgs) := fun n => by
    cases n with
    | zero => trivial
    | succ n =>
    refine ⟨by omega, by rw [fk]; exact fnd, fun p hp => ?_⟩
    obtain ⟨b, hb⟩ := fb p hp
    refine ⟨sz4 (flW _ (by rw [← fk]; exact List.mem_map.mpr ⟨p, hp, rfl⟩)), ?_⟩
    rw [hb]
    cases n <;> trivial
  cases n with
  | zero => trivial
  | succ n =>
  refine ⟨by show 2 ≤ 4; decide, by show (["flags", "lists"] : List Str).Nodup; decide +kernel, fun p hp => ?_⟩
  rcases List.mem_cons.mp hp with rfl | hp
  · exact ⟨by show 5 ≤ 256; decide, s2 n⟩
  · rw [List.mem_singleton.mp hp]; exact ⟨by show 5 ≤ 256; decide, s1 n⟩
theorem sz_turn {m : Nat} : ∀ {n : Nat} {d : D}, szD m n d → szD m n (turn n d)
  | 0, d, _ => by cases d <;> trivial
  | n + 1, .lst l, h => by
    refine ⟨by rw [List.length_map]; exact h.1, fun x hx => ?_⟩
    obtain ⟨y, hy, rfl⟩ := List.mem_map.mp hx
    exact sz_turn (h.2 y hy)
  | n + 1, .dic l, h => by
    have e : ((l.map fun p => (p.1, turn n p.2)).map (·.1)) = l.map (·.1) := by rw [List.map_map]; rfl
    refine ⟨by rw [List.length_reverse, List.length_map]; exact h.1, ?_, fun p hp => ?_⟩
    · rw [List.map_reverse, (List.reverse_perm _).nodup_iff, e]; exact h.2.1
    · obtain ⟨y, hy, rfl⟩ := List.mem_map.mp (List.mem_reverse.mp hp)
      exact ⟨(h.2.2 y hy).1, sz_turn (h.2.2 y hy).2⟩
  | n + 1, .non, h => h
  | n + 1, .bl _, h => h
  | n + 1, .int _, h => h
  | n + 1, .str _, h => h
  | n + 1, .tup _, h => h
theorem saysL_of {res : Option (List Key)} {H : Hp} {Q : VK} (h : ∀ H' v, Ex H H' → dueV H' res v → Q v H') : saysL res H Q := by
  refine ⟨fun hno H' e => h H' .non e ⟨fun _ => rfl, fun q hq => ?_⟩, fun q hq H' t e ht => h H' (.ref t) e ⟨fun hno => ?_, fun q' hq' => ?_⟩⟩
  · rw [hno] at hq; cases hq
  · rw [hq] at hno; cases hno
  · rw [hq] at hq'
    cases hq'
    exact ⟨t, rfl, ht⟩
theorem dataLW_srt {fl fl' : List Str} {s : Sh} {g : G} (fl2 : fl.length ≤ 2) (perm : fl'.Perm fl) (so : sortedS fl' = true) : dataLW fl' s g = dataLW fl s g := by
  have e1 : fl' = srt fl := srt_eq fl2 perm so
  have e2 : fl' = srt fl' := srt_eq (by rw [perm.length_eq]; exact fl2) (List.Perm.refl _) so
  unfold dataLW
  rw [← e2, ← e1]
theorem tspoilU {n N : Nat} {σ : L2.St} {H : Hp} {S c : Addr} {v : V} {m : Nat} {Z : Addr → Prop} {tS tv : TE} {Q : VK} (hn : n ≤ N) (hS : Ev tS σ H (.ref S)) (hv : Ev tv σ H v) (st : StAt H S c) (g : Gv m n Z H v) (z1 : ¬ Z S) (z2 : ¬ Z c) (m1 : 4 ≤ m) (m2 : m ≤ 7)
    (q : ∀ H' v', Mv S c H H' → Gv (m + 1) (n + 11) (fun b => Z b ∨ H b = none) H' v' → Q v' H') : tCall (spSpoilU N) [] E0 (tCons tS (tCons tv tNil)) σ H Q :=
  hS H (Ex.refl _) _ fun H1 e1 => hv H1 e1 _ fun H2 e2 => ⟨n, hn, S, c, v, m, Z, rfl, st.ex (e1.trans e2), gv_ex (e1.trans e2) g, z1, z2, m1, m2, fun H' v' mv g' => q H' v' ((Mv.ex st (e1.trans e2)).trans mv) (gv_up (Nat.le_refl _) (Nat.le_refl _) (fun b hb => hb.imp id fun z => Evl.fresh_back (e1.trans e2) z) g')⟩
end Pk

namespace Pk
open PySem PySem.Spec PyProof.Rows L2 Ssb
open Evl (Ex Ev EvT EvL EvA EvU)
theorem main_ok {l : PySem.W.OpenLaw} {w : World} {K : PySem.W.Frag} {mg : Str → Option Value} {fa C_Shape C_InvalidData C_InvalidShape C_StayError : Addr} (T : Txt K mg C_Shape C_InvalidData C_InvalidShape C_StayError) (R : Prg K mg C_Shape C_InvalidData C_InvalidShape C_StayError) (hfa : mg "law" = some (.ref fa)) :
    ∃ fd : FuncData, (∀ (s : Shared) (v : Value), BindsTo s fd ⟨[v], []⟩ [("_law_script", v)]) ∧ ∀ base : Heap, K.In base → base.Ns mainGlobals mg → FnOk l.prog w K mg base CX0 60 fa fd ["_law_script"] (spLaw K) := by
  obtain ⟨f, fd, at_, F, kp⟩ := R.law
  have e := hfa.symm.trans at_
  cases e
  obtain ⟨oc, od, kV, doc, pm, an, cdv0, ct, osl, rfl, lk, hcd⟩ := F.ex
  refine ⟨PySem.W.fnOf "law" "law" (defArgs s_law) (defBody s_law) (defScope s_law) .none kV doc pm an cdv0 ct, fun s v => .of_eq rfl, fun base _ _ => ?_⟩
  obtain ⟨_, _, G__law_stream⟩ := ok__law_stream (P := l.prog) (w := w) (base := base) T R
  obtain ⟨_, _, G__law_draw⟩ := ok__law_draw (P := l.prog) (w := w) (base := base) T R
  obtain ⟨_, _, G__law_names⟩ := ok__law_names (P := l.prog) (w := w) (base := base) T R
  obtain ⟨_, _, G__law_lists⟩ := ok__law_lists (P := l.prog) (w := w) (base := base) T R
  obtain ⟨_, _, G__law_data⟩ := ok__law_data (P := l.prog) (w := w) (base := base) T R
  obtain ⟨_, _, G__law_turned⟩ := ok__law_turned (P := l.prog) (w := w) (base := base) T R 9
  obtain ⟨_, _, G__law_copyD⟩ := ok__law_copyD (P := l.prog) (w := w) (base := base) T R 9
  obtain ⟨_, _, G__law_spoil⟩ := ok__law_spoil (P := l.prog) (w := w) (base := base) T R 42
  obtain ⟨_, _, G__law_copy⟩ := ok__law_copy (P := l.prog) (w := w) (base := base) T R 53
  obtain ⟨_, _, G__law_same⟩ := ok__law_same (P := l.prog) (w := w) (base := base) T R 53
  obtain ⟨_, _, G__law_data_wrong⟩ := ok__law_data_wrong (P := l.prog) (w := w) (base := base) T R
  obtain ⟨_, _, G__law_asked⟩ := ok__law_asked (P := l.prog) (w := w) (base := base) T R
  obtain ⟨_, _, G_Shape⟩ := ok_Shape_init (P := l.prog) (w := w) (base := base) T R
  refine F.ok sc_law (fun vs H Q E h => ?_) (fun cdv A outer s H vs Q E hr h => ?_)
  · obtain ⟨a, ns, rfl, _⟩ := h; rfl
  · obtain ⟨a, ns, rfl, hs, _, k⟩ := h
    refine ⟨_, (pss_cons (ps_set (i := 1) sc_law.nd rfl (Or.inl rfl) (pcl G__law_stream hr (pa_cons (pv 0) pa_nil)))
  (pss_cons (ps_set (i := 2) sc_law.nd rfl (Or.inl rfl) (pcl G__law_draw hr (pa_cons (pv 1) (pa_cons pe_int pa_nil))))
  (pss_cons (ps_set (i := 3) sc_law.nd rfl (Or.inl rfl) (pcl G__law_draw hr (pa_cons (pv 1) (pa_cons pe_int pa_nil))))
  (pss_cons (ps_set (i := 4) sc_law.nd rfl (Or.inl rfl) (pcl G__law_names hr (pa_cons (pv 1) (pa_cons (pcl G__law_draw hr (pa_cons (pv 1) (pa_cons pe_int pa_nil))) (pa_cons (pe_lst pa_nil) pa_nil)))))
  (pss_cons (ps_set (i := 5) sc_law.nd rfl (Or.inl rfl) (pcl G__law_lists hr (pa_cons (pv 1) (pa_cons pe_int pa_nil))))
  (pss_cons (ps_set (i := 6) sc_law.nd rfl (Or.inl rfl) (pcl G__law_data hr (pa_cons (pv 1) (pa_cons (pv 4) (pa_cons (pv 5) (pa_cons pe_int pa_nil))))))
  (Evl.pss_cut (ps_if (pt_cmpR op_eq (pv 3) pe_int (nomark _)) (pss_one (ps_set (i := 6) sc_law.nd rfl (Or.inl rfl) (pcl G__law_turned hr (pa_cons (pv 6) pa_nil)))) pss_nil)
  (pss_cons (ps_for PassesOwn.never rfl (pi_range1 (by rfl) T.range (pa_cons (pv 2) pa_nil)) (pg_name (i := 7) sc_law.nd rfl (Or.inl rfl))
    (pss_one (ps_set (i := 6) sc_law.nd rfl (Or.inl rfl) (pcl G__law_spoil hr (pa_cons (pv 1) (pa_cons (pv 6) pa_nil))))))
  (pss_cons (ps_set (i := 8) sc_law.nd rfl (Or.inl rfl) (pmk G_Shape T.mk_Shape T.kp_Shape T.at_Shape hr (pa_cons (pe_callTy (r := rListA K) call_list_of (by rfl) T.list (by decide +kernel) (pa_cons (pv 4) pa_nil)) (pa_cons (pcl G__law_copyD hr (pa_cons (pv 5) pa_nil)) pa_nil))))
  (pss_cons (ps_set (i := 9) sc_law.nd rfl (Or.inl rfl) (pcl G__law_data_wrong hr (pa_cons (pv 4) (pa_cons (pv 5) (pa_cons (pv 6) pa_nil)))))
  (pss_cons (ps_set (i := 10) sc_law.nd rfl (Or.inl rfl) (pcl G__law_copy hr (pa_cons (pv 6) pa_nil)))
  (pss_cons (ps_if (PW.pt (pw_or (pt_not (pt_val (pcl G__law_asked hr (pa_cons (pv 8) (pa_cons (pv 10) (pa_cons (pv 9) pa_nil)))))) (pw_or1 (pt_not (pt_val (pcl G__law_same hr (pa_cons (pv 10) (pa_cons (pv 6) pa_nil)))))))) pss_never pss_nil)
  (pss_one (ps_ret (pe_and (pcl G__law_asked hr (pa_cons (pv 8) (pa_cons (pv 10) (pa_cons (pv 9) pa_nil)))) (pe_one (pcl G__law_same hr (pa_cons (pv 10) (pa_cons (pv 6) pa_nil))))))))))))))))))), ?_⟩
    refine ⟨_, rfl, a, ns, rfl, hs, fun H1 S c st => ?_⟩
    refine q_asgM (tdraw (k := 5) (Evl.ev_var rfl) Evl.ev_c st (by decide) (by decide) fun H2 tm m2 t0 t1 => ?_)
    refine q_asgM (tdraw (k := 2) (Evl.ev_var rfl) Evl.ev_c m2.z (by decide) (by decide) fun H3 tn m3 _ _ => ?_)
    refine ⟨_, rfl, _, rfl, S, c, 3, rfl, m3.z, by decide, by decide, fun H4 nf m4 f0 f1 => ⟨(by show 0 ≤ sizeLine; decide), fun t0' ht0 => ⟨S, c, t0', nf, rfl, (Mv.new m4.z ht0).z, f0, by omega, upd_same, fun H5 qf fl m5 hqf hqf5 lf flW fnd => ?_⟩⟩⟩
    have fS := (Mv.new (o := .lst []) m4.z ht0).z.someS hqf
    refine ⟨_, rfl, S, c, rfl, m5.z, fun H6 ql dl z m6 hl hsh okS => ?_⟩
    have hqf6 := m6.fr qf _ fS.1 fS.2 hqf5
    have nS5 : ¬ H5 S = none := fun h => (m5.z.someS h).1 rfl
    have nc5 : ¬ H5 c = none := fun h => (m5.z.someS h).2 rfl
    have fl2 : fl.length ≤ 2 := by omega
    refine ⟨_, rfl, _, rfl, _, rfl, S, c, qf, .ref ql, 7, _, dl, fl, z, rfl, m6.z, hqf6, fnd, fl2, hl, nS5, nc5, hsh, okS, fun H7 qd dd m7 hd gd => ?_⟩
    have nS6 : ¬ H6 S = none := fun h => (m6.z.someS h).1 rfl
    have nc6 : ¬ H6 c = none := fun h => (m6.z.someS h).2 rfl
    have hlD := rep_dom hl
    have szd := sz_gD okS fl2 fnd flW gd
    have pld := pl_gD okS fnd gd
    have rd7 := rt_rep hd
    clear hl hd m4 m3 m2 hqf5 ht0 gd
    refine Evl.q_cut (M := fun σ' Hx => ∃ vv, σ' = [some (.ref a), some (.ref S), some (.int tm), some (.int tn), some (.ref qf), some (.ref ql), some vv, none, none, none, none] ∧ Mv S c H6 Hx ∧ Gv 4 9 (fun b => H6 b = none) Hx vv) ?_ ?_
    · refine Evl.s_when (b := decide (V.int tn = V.int 1)) (Evl.et_test (Evl.ev_op (Evl.ev_var rfl) Evl.ev_c (Evl.rv_eq rfl))) (fun _ H8 e8 => ?_) fun _ H8 e8 => ⟨.ref qd, rfl, m7.tx e8, emb dd, rp_ex e8 (rp_emb rd7 (szd 9))⟩
      exact ⟨_, rfl, .ref qd, _, dd, rfl, rep_ex e8 rd7, pld 9, fun H9 vt e9 ht => ⟨vt, rfl, m7.tx (e8.trans e9), emb (turn 9 dd), rp_S (fun b hb => (m7.tx e8).back hb) (rp_emb ht (sz_turn (szd 9)))⟩⟩
    rintro σ' H8 ⟨v8, rfl, m8, g8⟩
    clear rd7 m7 szd pld
    refine Evl.q_forR1 (n := tm) (Evl.ea_cons (Evl.ev_var rfl) Evl.ea_nil) ⟨t0, by omega⟩ (fun i σ' H' => ∃ o7 vv, σ' = [some (.ref a), some (.ref S), some (.int tm), some (.int tn), some (.ref qf), some (.ref ql), some vv, o7, none, none, none] ∧ Mv S c H6 H' ∧ Gv (4 + i) (9 + 11 * i) (fun b => H6 b = none) H' vv)
      (fun H9 e9 => ⟨_, v8, rfl, m8.tx e9, gv_ex e9 g8⟩) (fun i σ' H9 hi pv => ?_) fun σ' H9 pv => ?_
    · obtain ⟨o7, vv, rfl, m9, g9⟩ := pv
      have i4 : i < 4 := by omega
      exact s_asgM (tspoilU (n := 9 + 11 * i) (by omega) (Evl.ev_var rfl) (Evl.ev_var rfl) m9.z g9 nS6 nc6 (by omega) (by omega) fun H10 y m10 gy => ⟨_, y, rfl, m9.trans m10, gv_up (by omega) (by omega) (fun b hb => hb.elim id fun z => m9.back z) gy⟩)
    obtain ⟨o7, vv, rfl, m9, g9⟩ := pv
    obtain ⟨g, hg⟩ := gv_up (n' := 53) (m' := 8) (by omega) (by omega) (fun _ z => z) g9
    clear g9 g8 m8
    have hqf9 := m9.fr qf _ fS.1 fS.2 hqf6
    have nlS : ¬ (H5 S = none ∧ H6 S ≠ none) := fun h => nS5 h.1
    have nlc : ¬ (H5 c = none ∧ H6 c ≠ none) := fun h => nc5 h.1
    have hl9 : Rep H9 9 (fun b => H5 b = none ∧ H6 b ≠ none) dl (.ref ql) := rep_up (rep_up (rep_mv m9 nlS nlc hlD))
    -- the shape
    refine ⟨_, rfl, qf, _, rfl, .inl (Evl.sq_of hqf9), fun q2 hq2 => ⟨_, rfl, .ref ql, _, dl, rfl, rep_ex (Ex.new hq2) hl9, kn_sh hsh okS 9, fun H10 vc e10 hc => fun x dx hx hdx nxd => ?_⟩⟩
    have e8a : Ex H9 H10 := (Ex.new hq2).trans e10
    have hq10 : H10 q2 = some (.lst (fl.map V.str)) := e10 _ _ upd_same
    have old : ∀ b o, H10 b = some o → (upd (upd H10 dx (.own x)) x (.ins C_Shape dx [])) b = some o := fun b o h => by
      have n1 : b ≠ x := fun e => by rw [e, hx] at h; cases h
      have n2 : b ≠ dx := fun e => by rw [e, hdx] at h; cases h
      rw [upd_ne n1, upd_ne n2]; exact h
    refine ⟨x, dx, q2, fl, vc, 9, fun b => (upd H9 q2 (.lst (fl.map V.str))) b = none ∧ H10 b ≠ none, dl, z, rfl, upd_same, old _ _ hq10, fl2, flW, fnd, rep_ex old (rep_dom hc), hsh, okS, fun h => h.2 hx, fun H11 fl' fr11 permf so hS11 => ⟨rfl, ?_⟩⟩
    have e911 : Ex H9 H11 := fun b o h => by
      have h10 := e8a _ _ h
      exact fr11 b o (fun e => by rw [e, hx] at h10; cases h10) (old _ _ h10)
    have fl2' : fl'.length ≤ 2 := by rw [permf.length_eq]; exact fl2
    have fnd' : fl'.Nodup := permf.nodup_iff.mpr fnd
    have flW' : ∀ x ∈ fl', isW x := fun x hx => flW x (permf.mem_iff.mp hx)
    have hgD := rp_dom hg
    -- what is due
    refine ⟨_, rfl, _, rfl, _, rfl, qf, .ref ql, vv, fl, 9, _, dl, z, 8, 53, _, g, rfl, e911 _ _ hqf9, fl2, rep_ex e911 hl9, hsh, okS, rp_ex e911 hgD, by decide, fun b hb hp => hp.2 hb.1, saysL_of fun H12 dv e12 hdue => ?_⟩
    have e912 := e911.trans e12
    have hdue' : dueV H12 (dataW fl' z g) dv := by rw [data_same okS, dataLW_srt fl2 permf so]; exact hdue
    -- the copy
    refine ⟨_, rfl, vv, 8, _, g, rfl, rp_ex e912 hgD, by decide, fun H13 vp e13 hp => ?_⟩
    have hS13 := hS11.ex (e12.trans e13)
    have hg13 := rp_ex (e912.trans e13) hgD
    have due13 : dueV H13 (dataW fl' z g) dv := ⟨hdue'.1, fun q hq => by
      obtain ⟨t, h1, h2⟩ := hdue'.2 q hq
      exact ⟨t, h1, e13 _ _ h2⟩⟩
    have ask : ∀ {σ : L2.St} {Hx : Hp} {ta : TA}, Ex H13 Hx → EvA ta σ Hx [.ref x, vp, dv] → Ev (tCall (spAsk C_Shape) [] E0 ta) σ Hx (.bl true) := fun {σ Hx ta} ex h => ev_fn h fun H14 e14 Q' q' => ⟨x, vp, dv, 8, 53, _, g, fl', z, _, rfl, hS13.ex (ex.trans e14), fl2', fnd', flW', okS, rp_ex (ex.trans e14) hp, by decide, ⟨due13.1, fun q hq => by
      obtain ⟨t, h1, h2⟩ := due13.2 q hq
      exact ⟨t, h1, (ex.trans e14) _ _ h2⟩⟩, q'⟩
    have same : ∀ {σ : L2.St} {Hx : Hp} {ta : TA}, Ex H13 Hx → EvA ta σ Hx [vp, vv] → Ev (tCall (spSame 53) [] E0 ta) σ Hx (.bl true) := fun {σ Hx ta} ex h => ev_fn h fun H14 e14 Q' q' => ⟨vp, vv, 8, _, _, g, rfl, rp_ex (ex.trans e14) hp, rp_ex (ex.trans e14) hg13, by decide, fun b h1 h2 => h2.2 (Evl.fresh_back e912 h1), q'⟩
    refine Evl.q_when (b := false) (Evl.et_or (a := false) (b := false) (Evl.et_not (a := true) (Evl.et_B (ask (Ex.refl _) (Evl.ea_cons (Evl.ev_var rfl) (Evl.ea_cons (Evl.ev_var rfl) (Evl.ea_cons (Evl.ev_var rfl) Evl.ea_nil)))))) fun _ => Evl.et_not (a := true) (Evl.et_B (same (Ex.refl _) (Evl.ea_cons (Evl.ev_var rfl) (Evl.ea_cons (Evl.ev_var rfl) Evl.ea_nil))))) (fun h => nomatch h) fun _ H14 e14 => ?_
    exact Evl.s_ret (Evl.ev_is (Evl.ev_andV (a := true) (b := true) (ask e14 (Evl.ea_cons (Evl.ev_var rfl) (Evl.ea_cons (Evl.ev_var rfl) (Evl.ea_cons (Evl.ev_var rfl) Evl.ea_nil)))) fun _ => same e14 (Evl.ea_cons (Evl.ev_var rfl) (Evl.ea_cons (Evl.ev_var rfl) Evl.ea_nil))) rfl) fun H16 e16 => k H16
end Pk

namespace Pk
open PySem PySem.Spec PyProof.Rows L2 Ssb
theorem all_mk {l : PySem.W.OpenLaw} {w : World} {K : PySem.W.Frag} {h : Heap} {mg : Str → Option Value} {fa C_Shape C_InvalidData C_InvalidShape C_StayError : Addr} {t_MOST_ROWS : Tok} {t_GREATEST_ID : Tok} (X : K.In h) (G : h.Ns mainGlobals mg) (hfa : mg "law" = some (.ref fa))
    (aShape : PySem.W.nsIn K mainGlobals "Shape" = some (some (.ref C_Shape)))
    (pgShape : PySem.W.plainGet K C_Shape Str.empty = true)
    (hdShape : PySem.W.hasDictIn K C_Shape = true)
    (poShape : PySem.W.plainOver K C_Shape = true)
    (saShape : PySem.W.findIn K (.ref C_Shape) "__setattr__" = some (some (.builtin "object.__setattr__")))
    (mkShape : PySem.W.makesIn K C_Shape = true)
    (kcShape : PySem.W.keepIn K (.ref C_Shape) = true)
    (nShapeflags : PySem.W.findIn K (.ref C_Shape) "flags" = some none)
    (nShapetable : PySem.W.findIn K (.ref C_Shape) "table" = some none)
    (aInvalidShape : PySem.W.nsIn K mainGlobals "InvalidShape" = some (some (.ref C_InvalidShape)))
    (kcInvalidShape : PySem.W.keepIn K (.ref C_InvalidShape) = true)
    (aStayError : PySem.W.nsIn K mainGlobals "StayError" = some (some (.ref C_StayError)))
    (kcStayError : PySem.W.keepIn K (.ref C_StayError) = true)
    (aInvalidData : PySem.W.nsIn K mainGlobals "InvalidData" = some (some (.ref C_InvalidData)))
    (ovInvalidData : PySem.W.excOver K C_InvalidData exBm = true)
    (mdInvalidData : PySem.W.excInitIn K C_InvalidData exBm "Exception.__new__" = true)
    (hdInvalidData : PySem.W.hasDictIn K C_InvalidData = true)
    (saInvalidData : PySem.W.findIn K (.ref C_InvalidData) "__setattr__" = some (some (.builtin "object.__setattr__")))
    (ecInvalidData : PySem.W.subIn K (.ref C_InvalidData) (.type "BaseException") = some true)
    (tyInvalidData : PySem.W.typeIn K (.ref C_InvalidData) = some (.type "type"))
    (kcInvalidData : PySem.W.keepIn K (.ref C_InvalidData) = true)
    (gaInvalidData : PySem.W.findIn K (.ref C_InvalidData) "__getattribute__" = some (some (.builtin "BaseException.__getattribute__")))
    (ggInvalidData : PySem.W.findIn K (.ref C_InvalidData) "__getattr__" = some none)
    (owInvalidData : PySem.W.exmOne K (.ref C_InvalidData) (.ref C_InvalidData) = some true)
    (klInvalidData : PySem.W.findIn K (.ref C_InvalidData) "__class__" = some (some (.builtin "object.__class__")))
    (knInvalidData : PySem.W.specialIn K (.builtin "object.__class__") "__get__" = some (some (.builtin "getset_descriptor.__get__")))
    (ktInvalidData : PySem.W.takesIn K (.builtin "object.__class__") = some true)
    (kmInvalidData : PySem.W.mroIn K C_InvalidData (.type "object") = some true)
    (nInvalidDatapath : PySem.W.findIn K (.ref C_InvalidData) "path" = some none)
    (isInvalidDataInvalidShape : PySem.W.kitOne K (.ref C_InvalidData) (.ref C_InvalidShape) = some false)
    (isInvalidDataStayError : PySem.W.kitOne K (.ref C_InvalidData) (.ref C_StayError) = some true)
    (exInvalidDataInvalidShape : PySem.W.exmOne K (.ref C_InvalidData) (.ref C_InvalidShape) = some false)
    (exInvalidDataStayError : PySem.W.exmOne K (.ref C_InvalidData) (.ref C_StayError) = some true)
    (seInvalidData : PySem.W.kitOne K (.ref C_InvalidData) (.ref C_InvalidData) = some true)
    (z_all : PySem.W.nsIn K mainGlobals "all" = some none)
    (z_enumerate : PySem.W.nsIn K mainGlobals "enumerate" = some none)
    (z_int : PySem.W.nsIn K mainGlobals "int" = some none)
    (z_str : PySem.W.nsIn K mainGlobals "str" = some none)
    (z_bool : PySem.W.nsIn K mainGlobals "bool" = some none)
    (z_isinstance : PySem.W.nsIn K mainGlobals "isinstance" = some none)
    (z_len : PySem.W.nsIn K mainGlobals "len" = some none)
    (z_list : PySem.W.nsIn K mainGlobals "list" = some none)
    (z_range : PySem.W.nsIn K mainGlobals "range" = some none)
    (z_reversed : PySem.W.nsIn K mainGlobals "reversed" = some none)
    (z_sorted : PySem.W.nsIn K mainGlobals "sorted" = some none)
    (z_sum : PySem.W.nsIn K mainGlobals "sum" = some none)
    (z_tuple : PySem.W.nsIn K mainGlobals "tuple" = some none)
    (z_set : PySem.W.nsIn K mainGlobals "set" = some none)
    (z_dict : PySem.W.nsIn K mainGlobals "dict" = some none)
    (g_MOST_ROWS : PySem.W.nsIn K mainGlobals "MOST_ROWS" = some (some (.int 300 t_MOST_ROWS)))
    (g_GREATEST_ID : PySem.W.nsIn K mainGlobals "GREATEST_ID" = some (some (.int 1000000 t_GREATEST_ID)))
    (d_InvalidData_init : HereM K C_InvalidData "__init__" "InvalidData.__init__" s_InvalidData_init)
    (d_is_word : Here K mg "is_word" s_is_word)
    (d_are_words : Here K mg "are_words" s_are_words)
    (d_is_integer : Here K mg "is_integer" s_is_integer)
    (d_has_names : Here K mg "has_names" s_has_names)
    (d_is_named : Here K mg "is_named" s_is_named)
    (d_wrong_part : Here K mg "wrong_part" s_wrong_part)
    (d_are_lists : Here K mg "are_lists" s_are_lists)
    (d_are_list_shapes : Here K mg "are_list_shapes" s_are_list_shapes)
    (d_list_rows : Here K mg "list_rows" s_list_rows)
    (d_are_fields : Here K mg "are_fields" s_are_fields)
    (d_Shape_init : HereM K C_Shape "__init__" "Shape.__init__" s_Shape_init)
    (d_Shape_outer : HereM K C_Shape "outer" "Shape.outer" s_Shape_outer)
    (d_Shape_inner : HereM K C_Shape "inner" "Shape.inner" s_Shape_inner)
    (d_Shape_fields : HereM K C_Shape "fields" "Shape.fields" s_Shape_fields)
    (d_Shape_lists_in : HereM K C_Shape "lists_in" "Shape.lists_in" s_Shape_lists_in)
    (d_Shape_need_list : HereM K C_Shape "need_list" "Shape.need_list" s_Shape_need_list)
    (d_check : Here K mg "check" s_check)
    (d_check_words : Here K mg "check_words" s_check_words)
    (d_is_choice : Here K mg "is_choice" s_is_choice)
    (d_check_lists : Here K mg "check_lists" s_check_lists)
    (d_check_rows : Here K mg "check_rows" s_check_rows)
    (d_check_row : Here K mg "check_row" s_check_row)
    (d_rows_in : Here K mg "rows_in" s_rows_in)
    (d__law_stream : Here K mg "_law_stream" s__law_stream)
    (d__law_draw : Here K mg "_law_draw" s__law_draw)
    (d__law_same : Here K mg "_law_same" s__law_same)
    (d__law_copy : Here K mg "_law_copy" s__law_copy)
    (d__law_turned : Here K mg "_law_turned" s__law_turned)
    (d__law_word : Here K mg "_law_word" s__law_word)
    (d__law_names : Here K mg "_law_names" s__law_names)
    (d__law_fields : Here K mg "_law_fields" s__law_fields)
    (d__law_lists : Here K mg "_law_lists" s__law_lists)
    (d__law_rows : Here K mg "_law_rows" s__law_rows)
    (d__law_data : Here K mg "_law_data" s__law_data)
    (d__law_odd : Here K mg "_law_odd" s__law_odd)
    (d__law_resized : Here K mg "_law_resized" s__law_resized)
    (d__law_changed : Here K mg "_law_changed" s__law_changed)
    (d__law_spoil : Here K mg "_law_spoil" s__law_spoil)
    (d__law_has : Here K mg "_law_has" s__law_has)
    (d__law_row_wrong : Here K mg "_law_row_wrong" s__law_row_wrong)
    (d__law_rows_wrong : Here K mg "_law_rows_wrong" s__law_rows_wrong)
    (d__law_data_wrong : Here K mg "_law_data_wrong" s__law_data_wrong)
    (d__law_asked : Here K mg "_law_asked" s__law_asked)
    (d_law : Here K mg "law" s_law) :
    ∃ fd : FuncData, (∀ (s : Shared) (v : Value), BindsTo s fd ⟨[v], []⟩ [("_law_script", v)]) ∧ ∀ base : Heap, K.In base → base.Ns mainGlobals mg → FnOk l.prog w K mg base CX0 60 fa fd ["_law_script"] (spLaw K) := by
  have T : Txt K mg C_Shape C_InvalidData C_InvalidShape C_StayError := { all := PySem.W.mg_none_of X G z_all, enumerate := PySem.W.mg_none_of X G z_enumerate, int := PySem.W.mg_none_of X G z_int, str := PySem.W.mg_none_of X G z_str, bool := PySem.W.mg_none_of X G z_bool, isinstance := PySem.W.mg_none_of X G z_isinstance, len := PySem.W.mg_none_of X G z_len, list := PySem.W.mg_none_of X G z_list, range := PySem.W.mg_none_of X G z_range, reversed := PySem.W.mg_none_of X G z_reversed, sorted := PySem.W.mg_none_of X G z_sorted, sum := PySem.W.mg_none_of X G z_sum, tuple := PySem.W.mg_none_of X G z_tuple, set := PySem.W.mg_none_of X G z_set, dict := PySem.W.mg_none_of X G z_dict, g_MOST_ROWS := ⟨_, PySem.W.mg_of X G g_MOST_ROWS⟩, g_GREATEST_ID := ⟨_, PySem.W.mg_of X G g_GREATEST_ID⟩, cl_Shape := ⟨pgShape, hdShape, poShape, saShape⟩, mk_Shape := mkShape, kp_Shape := kcShape, at_Shape := PySem.W.mg_of X G aShape, no_Shape_flags := nShapeflags, no_Shape_table := nShapetable, ox_InvalidData := ⟨ovInvalidData, mdInvalidData, hdInvalidData, saInvalidData, ecInvalidData, tyInvalidData, kcInvalidData⟩, at_InvalidData := PySem.W.mg_of X G aInvalidData, xk_InvalidData := ⟨⟨gaInvalidData, ggInvalidData, ecInvalidData, hdInvalidData⟩, exk_cl hdInvalidData, klInvalidData, knInvalidData, ktInvalidData, kmInvalidData⟩, own_InvalidData := owInvalidData, no_InvalidData_path := nInvalidDatapath, is_InvalidData_InvalidShape := isInvalidDataInvalidShape, is_InvalidData_StayError := isInvalidDataStayError, ex_InvalidData_InvalidShape := exInvalidDataInvalidShape, ex_InvalidData_StayError := exInvalidDataStayError, se_InvalidData := seInvalidData, at_InvalidShape := PySem.W.mg_of X G aInvalidShape, kp_InvalidShape := kcInvalidShape, at_StayError := PySem.W.mg_of X G aStayError, kp_StayError := kcStayError }
  have R : Prg K mg C_Shape C_InvalidData C_InvalidShape C_StayError := { InvalidData_init := d_InvalidData_init, is_word := d_is_word, are_words := d_are_words, is_integer := d_is_integer, has_names := d_has_names, is_named := d_is_named, wrong_part := d_wrong_part, are_lists := d_are_lists, are_list_shapes := d_are_list_shapes, list_rows := d_list_rows, are_fields := d_are_fields, Shape_init := d_Shape_init, Shape_outer := d_Shape_outer, Shape_inner := d_Shape_inner, Shape_fields := d_Shape_fields, Shape_lists_in := d_Shape_lists_in, Shape_need_list := d_Shape_need_list, check := d_check, check_words := d_check_words, is_choice := d_is_choice, check_lists := d_check_lists, check_rows := d_check_rows, check_row := d_check_row, rows_in := d_rows_in, _law_stream := d__law_stream, _law_draw := d__law_draw, _law_same := d__law_same, _law_copy := d__law_copy, _law_turned := d__law_turned, _law_word := d__law_word, _law_names := d__law_names, _law_fields := d__law_fields, _law_lists := d__law_lists, _law_rows := d__law_rows, _law_data := d__law_data, _law_odd := d__law_odd, _law_resized := d__law_resized, _law_changed := d__law_changed, _law_spoil := d__law_spoil, _law_has := d__law_has, _law_row_wrong := d__law_row_wrong, _law_rows_wrong := d__law_rows_wrong, _law_data_wrong := d__law_data_wrong, _law_asked := d__law_asked, law := d_law }
  exact main_ok T R hfa
theorem walk {l : PySem.W.OpenLaw} {q : Program} {loose : List Str} {XP : (Str → Option Value) → Heap → Prop} {YP : World → Heap → Prop} {d : DefRec} {K : Params → PySem.W.Frag} (hn : l.most = some 63) (hdf : d.params.defaults = [])
    (hY : ∀ (w : World) (h : Heap), YP w h → (K w.params).In h)
    (F : ∀ (w : World) (mg : Str → Option Value) (fa : Addr) (h : Heap), (K w.params).In h → h.Ns mainGlobals mg → mg d.name = some (.ref fa) →
      ∃ fd : FuncData, (∀ (s : Shared) (u : Value), BindsTo s fd ⟨[u], []⟩ [("_law_script", u)]) ∧ ∀ base : Heap, (K w.params).In base → base.Ns mainGlobals mg → FnOk l.prog w (K w.params) mg base CX0 60 fa fd ["_law_script"] (spLaw (K w.params))) :
    PySem.W.WalkO q loose XP YP l.row.toRowW d [] (fun f vs => PySem.call f vs) :=
  L2.walk_of (n := 63) (k := 60) (x := "_law_script") (CX := fun _ => CX0) (sp := fun w => spLaw (K w.params)) hn (by decide) hdf ⟨rfl, by decide, by decide⟩ hY F (fun _ _ a ns hl _ hS => ⟨a, ns, rfl, hS, hl, fun _ => rfl⟩) fun _ _ _ _ _ z => z
end Pk
open PySem PySem.W PyProof.Rows
set_option maxRecDepth 100000 in
set_option maxHeartbeats 0 in
theorem PySem.Challenge.cw_statestay_k05_whole_wrong_data_found_holds : PySem.Challenge.rw_statestay_k05_whole_wrong_data_found.Holds := by
  w_on; o_law; k_head; (case hw => w_witness2)
  k_fill
  refine Pk.walk (l := PySem.Challenge.rw_statestay_k05_whole_wrong_data_found) rfl rfl (fun w h Y => PySem.W.kIn_of Y) ?F
  case F =>
    intro w mg fa h KX G hmg
    refine' Pk.all_mk KX G hmg ?aShape ?pgShape ?hdShape ?poShape ?saShape ?mkShape ?kcShape ?nShapeflags ?nShapetable ?aInvalidShape ?kcInvalidShape ?aStayError ?kcStayError ?aInvalidData ?ovInvalidData ?mdInvalidData ?hdInvalidData ?saInvalidData ?ecInvalidData ?tyInvalidData ?kcInvalidData ?gaInvalidData ?ggInvalidData ?owInvalidData ?klInvalidData ?knInvalidData ?ktInvalidData ?kmInvalidData ?nInvalidDatapath ?isInvalidDataInvalidShape ?isInvalidDataStayError ?exInvalidDataInvalidShape ?exInvalidDataStayError ?seInvalidData ?z_all ?z_enumerate ?z_int ?z_str ?z_bool ?z_isinstance ?z_len ?z_list ?z_range ?z_reversed ?z_sorted ?z_sum ?z_tuple ?z_set ?z_dict ?g_MOST_ROWS ?g_GREATEST_ID ?d_InvalidData_init ?d_is_word ?d_are_words ?d_is_integer ?d_has_names ?d_is_named ?d_wrong_part ?d_are_lists ?d_are_list_shapes ?d_list_rows ?d_are_fields ?d_Shape_init ?d_Shape_outer ?d_Shape_inner ?d_Shape_fields ?d_Shape_lists_in ?d_Shape_need_list ?d_check ?d_check_words ?d_is_choice ?d_check_lists ?d_check_rows ?d_check_row ?d_rows_in ?d__law_stream ?d__law_draw ?d__law_same ?d__law_copy ?d__law_turned ?d__law_word ?d__law_names ?d__law_fields ?d__law_lists ?d__law_rows ?d__law_data ?d__law_odd ?d__law_resized ?d__law_changed ?d__law_spoil ?d__law_has ?d__law_row_wrong ?d__law_rows_wrong ?d__law_data_wrong ?d__law_asked ?d_law
    (case aShape => k_is)
    (case pgShape => k_is)
    (case hdShape => k_is)
    (case poShape => k_is)
    (case saShape => k_is)
    (case mkShape => k_is)
    (case kcShape => k_is)
    (case nShapeflags => k_is)
    (case nShapetable => k_is)
    (case aInvalidShape => k_is)
    (case kcInvalidShape => k_is)
    (case aStayError => k_is)
    (case kcStayError => k_is)
    (case aInvalidData => k_is)
    (case ovInvalidData => first | k_is | kx_is)
    (case mdInvalidData => first | k_is | kx_is)
    (case hdInvalidData => k_is)
    (case saInvalidData => k_is)
    (case ecInvalidData => first | k_is | kx_is)
    (case tyInvalidData => first | k_is | kx_is)
    (case kcInvalidData => k_is)
    (case gaInvalidData => k_is)
    (case ggInvalidData => k_is)
    (case owInvalidData => kts_exm)
    (case klInvalidData => k_is)
    (case knInvalidData => k_is)
    (case ktInvalidData => k_is)
    (case kmInvalidData => k_is)
    (case nInvalidDatapath => k_is)
    (case isInvalidDataInvalidShape => kit_is)
    (case isInvalidDataStayError => kit_is)
    (case exInvalidDataInvalidShape => kts_exm)
    (case exInvalidDataStayError => kts_exm)
    (case seInvalidData => kit_is)
    (case z_all => k_is)
    (case z_enumerate => k_is)
    (case z_int => k_is)
    (case z_str => k_is)
    (case z_bool => k_is)
    (case z_isinstance => k_is)
    (case z_len => k_is)
    (case z_list => k_is)
    (case z_range => k_is)
    (case z_reversed => k_is)
    (case z_sorted => k_is)
    (case z_sum => k_is)
    (case z_tuple => k_is)
    (case z_set => k_is)
    (case z_dict => k_is)
    (case g_MOST_ROWS => k_is)
    (case g_GREATEST_ID => k_is)
    (case d_InvalidData_init => (refine' Pk.hereM_mk ?a ?i ?l ?c ?k; (case a => k_is); (case i => k_is); (case l => k_is); (case c => k_is); (case k => k_is)))
    (case d_is_word => (refine' Pk.here_mk KX G ?a ?l ?c ?k; (case a => k_is); (case l => k_is); (case c => k_is); (case k => k_is)))
    (case d_are_words => (refine' Pk.here_mk KX G ?a ?l ?c ?k; (case a => k_is); (case l => k_is); (case c => k_is); (case k => k_is)))
    (case d_is_integer => (refine' Pk.here_mk KX G ?a ?l ?c ?k; (case a => k_is); (case l => k_is); (case c => k_is); (case k => k_is)))
    (case d_has_names => (refine' Pk.here_mk KX G ?a ?l ?c ?k; (case a => k_is); (case l => k_is); (case c => k_is); (case k => k_is)))
    (case d_is_named => (refine' Pk.here_mk KX G ?a ?l ?c ?k; (case a => k_is); (case l => k_is); (case c => k_is); (case k => k_is)))
    (case d_wrong_part => (refine' Pk.here_mk KX G ?a ?l ?c ?k; (case a => k_is); (case l => k_is); (case c => k_is); (case k => k_is)))
    (case d_are_lists => (refine' Pk.here_mk KX G ?a ?l ?c ?k; (case a => k_is); (case l => k_is); (case c => k_is); (case k => k_is)))
    (case d_are_list_shapes => (refine' Pk.here_mk KX G ?a ?l ?c ?k; (case a => k_is); (case l => k_is); (case c => k_is); (case k => k_is)))
    (case d_list_rows => (refine' Pk.here_mk KX G ?a ?l ?c ?k; (case a => k_is); (case l => k_is); (case c => k_is); (case k => k_is)))
    (case d_are_fields => (refine' Pk.here_mk KX G ?a ?l ?c ?k; (case a => k_is); (case l => k_is); (case c => k_is); (case k => k_is)))
    (case d_Shape_init => (refine' Pk.hereM_mk ?a ?i ?l ?c ?k; (case a => k_is); (case i => k_is); (case l => k_is); (case c => k_is); (case k => k_is)))
    (case d_Shape_outer => (refine' Pk.hereM_mk ?a ?i ?l ?c ?k; (case a => k_is); (case i => k_is); (case l => k_is); (case c => k_is); (case k => k_is)))
    (case d_Shape_inner => (refine' Pk.hereM_mk ?a ?i ?l ?c ?k; (case a => k_is); (case i => k_is); (case l => k_is); (case c => k_is); (case k => k_is)))
    (case d_Shape_fields => (refine' Pk.hereM_mk ?a ?i ?l ?c ?k; (case a => k_is); (case i => k_is); (case l => k_is); (case c => k_is); (case k => k_is)))
    (case d_Shape_lists_in => (refine' Pk.hereM_mk ?a ?i ?l ?c ?k; (case a => k_is); (case i => k_is); (case l => k_is); (case c => k_is); (case k => k_is)))
    (case d_Shape_need_list => (refine' Pk.hereM_mk ?a ?i ?l ?c ?k; (case a => k_is); (case i => k_is); (case l => k_is); (case c => k_is); (case k => k_is)))
    (case d_check => (refine' Pk.here_mk KX G ?a ?l ?c ?k; (case a => k_is); (case l => k_is); (case c => k_is); (case k => k_is)))
    (case d_check_words => (refine' Pk.here_mk KX G ?a ?l ?c ?k; (case a => k_is); (case l => k_is); (case c => k_is); (case k => k_is)))
    (case d_is_choice => (refine' Pk.here_mk KX G ?a ?l ?c ?k; (case a => k_is); (case l => k_is); (case c => k_is); (case k => k_is)))
    (case d_check_lists => (refine' Pk.here_mk KX G ?a ?l ?c ?k; (case a => k_is); (case l => k_is); (case c => k_is); (case k => k_is)))
    (case d_check_rows => (refine' Pk.here_mk KX G ?a ?l ?c ?k; (case a => k_is); (case l => k_is); (case c => k_is); (case k => k_is)))
    (case d_check_row => (refine' Pk.here_mk KX G ?a ?l ?c ?k; (case a => k_is); (case l => k_is); (case c => k_is); (case k => k_is)))
    (case d_rows_in => (refine' Pk.here_mk KX G ?a ?l ?c ?k; (case a => k_is); (case l => k_is); (case c => k_is); (case k => k_is)))
    (case d__law_stream => (refine' Pk.here_mk KX G ?a ?l ?c ?k; (case a => k_is); (case l => k_is); (case c => k_is); (case k => k_is)))
    (case d__law_draw => (refine' Pk.here_mk KX G ?a ?l ?c ?k; (case a => k_is); (case l => k_is); (case c => k_is); (case k => k_is)))
    (case d__law_same => (refine' Pk.here_mk KX G ?a ?l ?c ?k; (case a => k_is); (case l => k_is); (case c => k_is); (case k => k_is)))
    (case d__law_copy => (refine' Pk.here_mk KX G ?a ?l ?c ?k; (case a => k_is); (case l => k_is); (case c => k_is); (case k => k_is)))
    (case d__law_turned => (refine' Pk.here_mk KX G ?a ?l ?c ?k; (case a => k_is); (case l => k_is); (case c => k_is); (case k => k_is)))
    (case d__law_word => (refine' Pk.here_mk KX G ?a ?l ?c ?k; (case a => k_is); (case l => k_is); (case c => k_is); (case k => k_is)))
    (case d__law_names => (refine' Pk.here_mk KX G ?a ?l ?c ?k; (case a => k_is); (case l => k_is); (case c => k_is); (case k => k_is)))
    (case d__law_fields => (refine' Pk.here_mk KX G ?a ?l ?c ?k; (case a => k_is); (case l => k_is); (case c => k_is); (case k => k_is)))
    (case d__law_lists => (refine' Pk.here_mk KX G ?a ?l ?c ?k; (case a => k_is); (case l => k_is); (case c => k_is); (case k => k_is)))
    (case d__law_rows => (refine' Pk.here_mk KX G ?a ?l ?c ?k; (case a => k_is); (case l => k_is); (case c => k_is); (case k => k_is)))
    (case d__law_data => (refine' Pk.here_mk KX G ?a ?l ?c ?k; (case a => k_is); (case l => k_is); (case c => k_is); (case k => k_is)))
    (case d__law_odd => (refine' Pk.here_mk KX G ?a ?l ?c ?k; (case a => k_is); (case l => k_is); (case c => k_is); (case k => k_is)))
    (case d__law_resized => (refine' Pk.here_mk KX G ?a ?l ?c ?k; (case a => k_is); (case l => k_is); (case c => k_is); (case k => k_is)))
    (case d__law_changed => (refine' Pk.here_mk KX G ?a ?l ?c ?k; (case a => k_is); (case l => k_is); (case c => k_is); (case k => k_is)))
    (case d__law_spoil => (refine' Pk.here_mk KX G ?a ?l ?c ?k; (case a => k_is); (case l => k_is); (case c => k_is); (case k => k_is)))
    (case d__law_has => (refine' Pk.here_mk KX G ?a ?l ?c ?k; (case a => k_is); (case l => k_is); (case c => k_is); (case k => k_is)))
    (case d__law_row_wrong => (refine' Pk.here_mk KX G ?a ?l ?c ?k; (case a => k_is); (case l => k_is); (case c => k_is); (case k => k_is)))
    (case d__law_rows_wrong => (refine' Pk.here_mk KX G ?a ?l ?c ?k; (case a => k_is); (case l => k_is); (case c => k_is); (case k => k_is)))
    (case d__law_data_wrong => (refine' Pk.here_mk KX G ?a ?l ?c ?k; (case a => k_is); (case l => k_is); (case c => k_is); (case k => k_is)))
    (case d__law_asked => (refine' Pk.here_mk KX G ?a ?l ?c ?k; (case a => k_is); (case l => k_is); (case c => k_is); (case k => k_is)))
    (case d_law => (refine' Pk.here_mk KX G ?a ?l ?c ?k; (case a => k_is); (case l => k_is); (case c => k_is); (case k => k_is)))
