import PyProof.Rows.All
import Wide.All
import OpenK.AllK
import Wide.FinOn
import HandS.ForMost
import HandS.Evl
import HandS.IsInst
import HandS.DictComp
import HandS.SetKeys
import HandS.Strs
import HandS.Wide
import HandS.Walk
import HandS.Conv
import HandS.More
import HandS.TupAny
import HandS.Rev
import HandS.SetBool
import PySem.Challenge.RW_statestay_k04_rows_counted
set_option Elab.async false
set_option linter.all false
set_option maxRecDepth 100000
set_option maxHeartbeats 3100000
/-! Sets of texts of any size: set(xs) of a list or a tuple, and their length. -/
namespace Ssb
open PySem PySem.Spec PyProof.Rows L2

/-- acc and, behind it, what of the list was not met before -/
def met : List Str → List Str → List Str
  | acc, [] => acc
  | acc, x :: r => met (if x ∈ acc then acc else acc ++ [x]) r
theorem met_len : ∀ (l acc : List Str), (met acc l).length ≤ acc.length + l.length
  | [], acc => Nat.le_refl _
  | x :: r, acc => by
    have h := met_len r (if x ∈ acc then acc else acc ++ [x])
    show (met (if x ∈ acc then acc else acc ++ [x]) r).length ≤ acc.length + (r.length + 1)
    refine Nat.le_trans h ?_
    by_cases hx : x ∈ acc
    · rw [if_pos hx]; omega
    · rw [if_neg hx, List.length_append, List.length_singleton]; omega
theorem met_nodup : ∀ (l acc : List Str), (acc ++ l).Nodup → met acc l = acc ++ l
  | [], acc, _ => by rw [List.append_nil]; rfl
  | x :: r, acc, h => by
    have hx : ¬ x ∈ acc := fun hm => by
      have := (List.nodup_append.mp h).2.2 x hm x List.mem_cons_self
      exact this rfl
    show met (if x ∈ acc then acc else acc ++ [x]) r = acc ++ x :: r
    rw [if_neg hx, met_nodup r (acc ++ [x]) (by rw [List.append_assoc]; exact h), List.append_assoc]
    rfl
theorem met_in (acc : List Str) (x k : Str) : (decide (k ∈ acc) || decide (k = x)) = decide (k ∈ (if x ∈ acc then acc else acc ++ [x])) := by
  by_cases hx : x ∈ acc
  · rw [if_pos hx]
    by_cases e : k = x
    · rw [e, decide_eq_true hx]; rfl
    · rw [decide_eq_false e, Bool.or_false]
  · rw [if_neg hx]
    by_cases e : k = x
    · rw [e, decide_eq_true rfl, Bool.or_true, decide_eq_true (List.mem_append_right _ List.mem_cons_self)]
    · by_cases h2 : k ∈ acc
      · rw [decide_eq_true h2, decide_eq_true (List.mem_append_left _ h2)]; rfl
      · rw [decide_eq_false h2, decide_eq_false e, decide_eq_false]; rfl
        intro z
        rcases List.mem_append.mp z with z | z
        · exact h2 z
        · exact e (List.mem_singleton.mp z)
theorem met_size (acc : List Str) (x : Str) : (if decide (x ∈ acc) = true then acc.length else acc.length + 1) = (if x ∈ acc then acc else acc ++ [x]).length := by
  by_cases hx : x ∈ acc
  · rw [if_pos hx, decide_eq_true hx, if_pos rfl]
  · rw [if_neg hx, decide_eq_false hx, if_neg Bool.false_ne_true, List.length_append]; rfl
theorem cod_some {xs : List Str} {i : Nat} (h : i < xs.length) : xs.drop i = xs.getD i Str.empty :: xs.drop (i + 1) := by
  rw [List.drop_eq_getElem_cons h, List.getD_eq_getElem?_getD, List.getElem?_eq_getElem h, Option.getD_some]

section
variable {prog : Program} {w : World} {A : Around} {R : Result → Shared → Prop} {I S : Addr} {fp wr : List Addr} {G : Array GenState → Array GenState → Prop} {n : Nat} {P : Nat → Value → Prop} {St : Nat → Shared → Prop}
/-- set.update's own loop over texts -/
theorem upd_loop (W : WalksS prog w A.in1 I fp wr G n P St) (nS : S ∉ fp) {xs : List Str} (len : xs.length = n) (val : ∀ i v, P i v → ∃ t, v = .str (xs.getD i Str.empty) t) (few : n + 1 < scanBound) :
    ∀ (m i : Nat) (acc : List Str) (s : Shared), i + m = n → acc.length ≤ i → St i s → s.heap.SetOf (PySem.strKind prog w) S (fun k => decide (k ∈ acc)) acc.length →
      (∀ s2, Moved (S :: wr) G s s2 → s2.heap.SetOf (PySem.strKind prog w) S (fun k => decide (k ∈ met acc (xs.drop i))) (met acc (xs.drop i)).length → R (.ok (.ret .none)) s2) →
      codeAny (model prog w) A (.builtin "set.update.loop" ⟨[.ref S, .ref I], []⟩) R s := by
  have nw : S ∉ wr := fun hm => nS (W.sub S hm)
  have up : ∀ b, b ∈ wr → b ∈ S :: wr := fun b => List.mem_cons_of_mem S
  have stays : ∀ {s s2 : Shared} {T : Str → Bool} {c : Nat}, Moved wr G s s2 → s.heap.SetOf (PySem.strKind prog w) S T c → s2.heap.SetOf (PySem.strKind prog w) S T c := fun mv ⟨o, a1, a2, a3, q, r⟩ => ⟨o, a1, a2, a3, mv.heap S o nw q, r⟩
  intro m
  induction m with
  | zero =>
    intro i acc s e _ st so k
    obtain rfl : i = n := e
    refine codeAny_builtin PyProof.Rows.F.entry_set_update_loop ?_
    rw [Around.under_plainId PyProof.Rows.F.plain_set_update_loop]
    refine wpAny_bind (W.done s _ _ st fun s2 mv => wpAny_pure (k s2 (mv.mono up) ?_))
    rw [List.drop_of_length_le (Nat.le_of_eq len)]
    exact stays mv so
  | succ m ih =>
    intro i acc s e la st so k
    have lt : i < n := by omega
    refine codeAny_builtin PyProof.Rows.F.entry_set_update_loop ?_
    rw [Around.under_plainId PyProof.Rows.F.plain_set_update_loop]
    refine wpAny_bind (W.item i s _ _ lt st fun v s2 pv st2 mv => ?_)
    obtain ⟨t, rfl⟩ := val i v pv
    have so2 := stays mv so
    refine wpAny_bind (wpAny_holding ?_)
    unfold setAdd
    refine wpAny_holding (wpAny_bind ((PySem.strKind prog w).pyHash (k := xs.getD i Str.empty) (strKind_is _ _ _ _) ?_))
    refine wpAny_setAddHashed_of (knd := PySem.strKind prog w) (s := { s2 with toks := s2.toks + 1 }) (strKind_is _ _ _ _) rfl so2 (by omega) fun h3 sb so3 => ?_
    have out : ∀ b, b ≠ S → ∀ o, s2.heap.get? b = some o → h3.get? b = some o := fun b hb o q => (sb.2 b hb).trans q
    have so4 : h3.SetOf (PySem.strKind prog w) S (fun k' => decide (k' ∈ (if xs.getD i Str.empty ∈ acc then acc else acc ++ [xs.getD i Str.empty]))) (if xs.getD i Str.empty ∈ acc then acc else acc ++ [xs.getD i Str.empty]).length :=
      SetOf_congr so3 (fun k' => met_in _ _ _) (met_size _ _)
    have len4 : (if xs.getD i Str.empty ∈ acc then acc else acc ++ [xs.getD i Str.empty]).length ≤ i + 1 := by
      by_cases hx : xs.getD i Str.empty ∈ acc
      · rw [if_pos hx]; omega
      · rw [if_neg hx, List.length_append, List.length_singleton]; omega
    refine wpAny_pure ⟨plainId_quiet PyProof.Rows.F.plain_set_update_loop _, ih (i + 1) _ { s2 with heap := h3, toks := s2.toks + 1 } (by omega) len4 (W.frame _ s2 _ _ st2 (Nat.le_succ _) fun b hb o q => out b (fun z => nS (z ▸ hb)) o q) so4 fun s5 mv5 so5 => k s5 ?_ ?_⟩
    · exact Moved.trans W.gtrans ((mv.mono up).then_heap (Nat.le_succ _) fun b o hb q => out b (fun z => hb (z ▸ List.mem_cons_self)) o q) mv5
    · rw [cod_some (by omega)]
      exact so5
end

/-- what stands at the new set's place at first -/
abbrev bare (led : Bool) : Obj := { cls := .type "set", dict := none, data := .set #[] 0 (.fresh 0 0 led) }
section
variable {prog : Program} {w : World} {A : Around} {E : Value → Shared → Prop} {s : Shared} {src : Addr} {items : Array Value} {xs : List Str}
set_option maxHeartbeats 3200000 in
/-- set(list of texts) -/
theorem set_list {Q : Value → Shared → Prop} (calm : A.handled = none) (at_ : s.heap.IsList src items) (are : PyProof.Rows.StrsAre items.toList xs) (few : xs.length + 1 < scanBound)
    (k : ∀ (h2 : Heap) (tk : Nat), h2.SetOf (PySem.strKind prog w) s.heap.objs.size (fun k' => decide (k' ∈ met [] xs)) (met [] xs).length → (∀ b o, s.heap.get? b = some o → h2.get? b = some o) → Q (.ref s.heap.objs.size) { s with heap := h2, toks := tk }) :
    wpAny (model prog w) A (call (.type "set") [.ref src]) Q E s := by
  have m1 := PySem.F.called_set.mro
  obtain ⟨_, _, hm⟩ := m1
  have made := PySem.F.called_set.made
  have below := PySem.F.called_set.sub
  refine wpAny_call (codeAny_of_tree ?_)
  show wpAny _ _ (callAny (Value.type "set") ⟨[Value.ref src], []⟩) _ _ _
  refine wpAny_pure (And.intro (Code.quiet_builtin _ (by decide +kernel)) (codeAny_builtin PySem.F.entry_type_call ?_))
  rw [Around.under_plain (weight_type_call_type "set" [Value.ref src] []) rfl]
  have n1 := PySem.F.called_set.notType
  have n2 := PySem.F.called_set.canCreate
  have n3 := PySem.F.typeCall_set_1 (Value.ref src)
  repeat any_goals first | wp_step | assumption
  refine codeAny_mono (code_set_new_1 (Value.ref src) (E := E) (Q₁ := fun x s1 => ∃ led, x = .ref s.heap.objs.size ∧ s1 = { s with heap := s.heap.push (bare led) }) fun led => ⟨led, rfl, rfl⟩) fun r s1 back => ?_
  cases r with
  | error e => exact back
  | ok fl =>
    cases fl with
    | next => exact back.elim
    | brk => exact back.elim
    | cont => exact back.elim
    | ret x =>
      obtain ⟨led, rfl, rfl⟩ := back
      have gS : (s.heap.push (bare led)).get? s.heap.objs.size = some (bare led) := Heap.get?_push_size _ rfl
      have tS : Shared.TypeIs { s with heap := s.heap.push (bare led) } (.ref s.heap.objs.size) "set" := ⟨_, gS, rfl⟩
      have i1 := PySem.F.called_set.init.lookup
      have i2 := PySem.F.called_set.init.bind (.ref s.heap.objs.size)
      repeat any_goals first | wp_step | assumption
      refine codeAny_mono (codeAny_call_builtin (R := wants (fun r s2 => r = .none ∧ ∃ h2 tk, s2 = { s with heap := h2, toks := tk } ∧ h2.SetOf (PySem.strKind prog w) s.heap.objs.size (fun k' => decide (k' ∈ met [] xs)) (met [] xs).length ∧
        ∀ b o, s.heap.get? b = some o → h2.get? b = some o) E) PySem.F.called_set.init.plain PySem.F.entry_set_init (check_set_init_1 tS ?_)) fun r2 s2 back2 => ?_
      · obtain ⟨ol, gl, cl, nl, dl⟩ := at_
        obtain ⟨ocls, odict, odata, oslots⟩ := ol
        simp only at cl dl
        subst cl; subst dl
        have gl' : (s.heap.push (bare led)).get? src = some { cls := .type "list", dict := odict, data := .seq items nl, slots := oslots } := Heap.get?_push_of_some _ gl
        have u1 := PySem.F.sub_list_set
        have u2 := PySem.F.sub_list_frozenset
        have u3 : (Value.type "list" == Value.type "dict") = false := by decide
        have at2 : (s.heap.push (bare led)).IsList src items := ⟨_, gl', rfl, nl, rfl⟩
        unfold Builtin.«set.__init__» noKeywords Builtin.Frozenset.updateFrom
        generalize hide : pyIter = PI
        wp_walk
        subst hide
        refine wpAny_pyIter_list at2 (wpAny_bind (wpAny_runValue ?_))
        have small : src < s.heap.objs.size := Heap.lt_size gl
        have calm3 : A.in1.in1.in1.handled = none := by simp [calm]
        have z1 : (s.heap.push (bare led)).objs.size = s.heap.objs.size + 1 := Heap.size_push ..
        have d1 : src ≠ (s.heap.push (bare led)).objs.size := by rw [z1]; exact Nat.ne_of_lt (Nat.lt_succ_of_lt small)
        have d2 : s.heap.objs.size ∉ [(s.heap.push (bare led)).objs.size, src] := by
          rw [z1]
          intro hm2
          rcases List.mem_cons.mp hm2 with e | hm2
          · exact Nat.ne_of_lt (Nat.lt_succ_self _) e
          · exact Nat.ne_of_gt small (List.mem_singleton.mp hm2)
        have sz : xs.length = items.size := by rw [← StrsAre.len_eq are, Array.length_toList]
        have vals : ∀ (i : Nat) (v : Value), items[i]? = some v → ∃ t, v = .str (xs.getD i Str.empty) t := fun i v hv => SS.strs_at are i v (by rw [Array.getElem?_toList]; exact hv)
        refine upd_loop (S := s.heap.objs.size) ((Walks.list calm3 _ src d1 items).toS) d2 sz vals (by omega) items.size 0 [] _ (Nat.zero_add _) (Nat.le_refl _) ⟨⟨_, Heap.get?_push_size _ rfl, rfl, rfl⟩, (at2.push _)⟩ ?first ?last
        case first =>
          exact SetOf_congr ((setObjOf_fresh (knd := PySem.strKind prog w) led).setOf (Heap.get?_push_of_some _ gS) (by decide)) (fun _ => rfl) rfl
        case last =>
          intro s' mv so
          obtain ⟨h', g', d', tk', os'⟩ := s'
          obtain rfl : g' = s.gens := mv.gens
          obtain rfl : d' = s.drawn := mv.drawn
          obtain rfl : os' = s.os := mv.os
          refine wpAny_pure (wpAny_pure ⟨rfl, h', tk', rfl, so, fun b o q => ?_⟩)
          have lb : b < s.heap.objs.size := Heap.lt_size q
          refine mv.heap b o (fun hm2 => ?_) (Heap.get?_push_of_some _ (Heap.get?_push_of_some _ q))
          rcases List.mem_cons.mp hm2 with e | hm2
          · exact Nat.ne_of_lt lb e
          · have e2 := List.mem_singleton.mp hm2
            rw [z1] at e2
            exact Nat.ne_of_lt (Nat.lt_succ_of_lt lb) e2
      · cases r2 with
        | error e => exact back2
        | ok fl2 =>
          cases fl2 with
          | next => exact back2.elim
          | brk => exact back2.elim
          | cont => exact back2.elim
          | ret r =>
            obtain ⟨rfl, h2, tk, rfl, so, kp⟩ := back2
            repeat any_goals first | wp_step | assumption
            exact k _ _ so kp
set_option maxHeartbeats 3200000 in
/-- set(tuple of texts) -/
theorem set_tuple {Q : Value → Shared → Prop} (calm : A.handled = none) (at_ : s.heap.IsTuple src items) (are : PyProof.Rows.StrsAre items.toList xs) (few : xs.length + 1 < scanBound)
    (k : ∀ (h2 : Heap) (tk : Nat), h2.SetOf (PySem.strKind prog w) s.heap.objs.size (fun k' => decide (k' ∈ met [] xs)) (met [] xs).length → (∀ b o, s.heap.get? b = some o → h2.get? b = some o) → Q (.ref s.heap.objs.size) { s with heap := h2, toks := tk }) :
    wpAny (model prog w) A (call (.type "set") [.ref src]) Q E s := by
  have m1 := PySem.F.called_set.mro
  obtain ⟨_, _, hm⟩ := m1
  have made := PySem.F.called_set.made
  have below := PySem.F.called_set.sub
  refine wpAny_call (codeAny_of_tree ?_)
  show wpAny _ _ (callAny (Value.type "set") ⟨[Value.ref src], []⟩) _ _ _
  refine wpAny_pure (And.intro (Code.quiet_builtin _ (by decide +kernel)) (codeAny_builtin PySem.F.entry_type_call ?_))
  rw [Around.under_plain (weight_type_call_type "set" [Value.ref src] []) rfl]
  have n1 := PySem.F.called_set.notType
  have n2 := PySem.F.called_set.canCreate
  have n3 := PySem.F.typeCall_set_1 (Value.ref src)
  repeat any_goals first | wp_step | assumption
  refine codeAny_mono (code_set_new_1 (Value.ref src) (E := E) (Q₁ := fun x s1 => ∃ led, x = .ref s.heap.objs.size ∧ s1 = { s with heap := s.heap.push (bare led) }) fun led => ⟨led, rfl, rfl⟩) fun r s1 back => ?_
  cases r with
  | error e => exact back
  | ok fl =>
    cases fl with
    | next => exact back.elim
    | brk => exact back.elim
    | cont => exact back.elim
    | ret x =>
      obtain ⟨led, rfl, rfl⟩ := back
      have gS : (s.heap.push (bare led)).get? s.heap.objs.size = some (bare led) := Heap.get?_push_size _ rfl
      have tS : Shared.TypeIs { s with heap := s.heap.push (bare led) } (.ref s.heap.objs.size) "set" := ⟨_, gS, rfl⟩
      have i1 := PySem.F.called_set.init.lookup
      have i2 := PySem.F.called_set.init.bind (.ref s.heap.objs.size)
      repeat any_goals first | wp_step | assumption
      refine codeAny_mono (codeAny_call_builtin (R := wants (fun r s2 => r = .none ∧ ∃ h2 tk, s2 = { s with heap := h2, toks := tk } ∧ h2.SetOf (PySem.strKind prog w) s.heap.objs.size (fun k' => decide (k' ∈ met [] xs)) (met [] xs).length ∧
        ∀ b o, s.heap.get? b = some o → h2.get? b = some o) E) PySem.F.called_set.init.plain PySem.F.entry_set_init (check_set_init_1 tS ?_)) fun r2 s2 back2 => ?_
      · obtain ⟨ol, gl, cl, nl, dl⟩ := at_
        obtain ⟨ocls, odict, odata, oslots⟩ := ol
        simp only at cl dl
        subst cl; subst dl
        have gl' : (s.heap.push (bare led)).get? src = some { cls := .type "tuple", dict := odict, data := .seq items nl, slots := oslots } := Heap.get?_push_of_some _ gl
        have u1 := PySem.F.sub_tuple_set
        have u2 := PySem.F.sub_tuple_frozenset
        have u3 : (Value.type "tuple" == Value.type "dict") = false := by decide
        have at2 : (s.heap.push (bare led)).IsTuple src items := ⟨_, gl', rfl, nl, rfl⟩
        unfold Builtin.«set.__init__» noKeywords Builtin.Frozenset.updateFrom
        generalize hide : pyIter = PI
        wp_walk
        subst hide
        refine wpAny_pyIter_tuple at2 (wpAny_bind (wpAny_runValue ?_))
        have small : src < s.heap.objs.size := Heap.lt_size gl
        have calm3 : A.in1.in1.in1.handled = none := by simp [calm]
        have z1 : (s.heap.push (bare led)).objs.size = s.heap.objs.size + 1 := Heap.size_push ..
        have d1 : src ≠ (s.heap.push (bare led)).objs.size := by rw [z1]; exact Nat.ne_of_lt (Nat.lt_succ_of_lt small)
        have d2 : s.heap.objs.size ∉ [(s.heap.push (bare led)).objs.size, src] := by
          rw [z1]
          intro hm2
          rcases List.mem_cons.mp hm2 with e | hm2
          · exact Nat.ne_of_lt (Nat.lt_succ_self _) e
          · exact Nat.ne_of_gt small (List.mem_singleton.mp hm2)
        have sz : xs.length = items.size := by rw [← StrsAre.len_eq are, Array.length_toList]
        have vals : ∀ (i : Nat) (v : Value), items[i]? = some v → ∃ t, v = .str (xs.getD i Str.empty) t := fun i v hv => SS.strs_at are i v (by rw [Array.getElem?_toList]; exact hv)
        refine upd_loop (S := s.heap.objs.size) ((Walks.tuple calm3 _ src d1 items).toS) d2 sz vals (by omega) items.size 0 [] _ (Nat.zero_add _) (Nat.le_refl _) ⟨⟨_, Heap.get?_push_size _ rfl, rfl, rfl⟩, (at2.push _)⟩ ?first ?last
        case first =>
          exact SetOf_congr ((setObjOf_fresh (knd := PySem.strKind prog w) led).setOf (Heap.get?_push_of_some _ gS) (by decide)) (fun _ => rfl) rfl
        case last =>
          intro s' mv so
          obtain ⟨h', g', d', tk', os'⟩ := s'
          obtain rfl : g' = s.gens := mv.gens
          obtain rfl : d' = s.drawn := mv.drawn
          obtain rfl : os' = s.os := mv.os
          refine wpAny_pure (wpAny_pure ⟨rfl, h', tk', rfl, so, fun b o q => ?_⟩)
          have lb : b < s.heap.objs.size := Heap.lt_size q
          refine mv.heap b o (fun hm2 => ?_) (Heap.get?_push_of_some _ (Heap.get?_push_of_some _ q))
          rcases List.mem_cons.mp hm2 with e | hm2
          · exact Nat.ne_of_lt lb e
          · have e2 := List.mem_singleton.mp hm2
            rw [z1] at e2
            exact Nat.ne_of_lt (Nat.lt_succ_of_lt lb) e2
      · cases r2 with
        | error e => exact back2
        | ok fl2 =>
          cases fl2 with
          | next => exact back2.elim
          | brk => exact back2.elim
          | cont => exact back2.elim
          | ret r =>
            obtain ⟨rfl, h2, tk, rfl, so, kp⟩ := back2
            repeat any_goals first | wp_step | assumption
            exact k _ _ so kp
end
end Ssb

/-! Sets of texts as tracked things: set(xs), {text for ..}, their len. -/
namespace Ssb
open PySem PySem.Spec PyProof.Rows L2

/-- at a: the set of the texts of l -/
def Txs (P : Program) (w : World) (a : Addr) (l : List Str) : HO := .ext fun h => h.SetOf (PySem.strKind P w) a (fun k => decide (k ∈ l)) l.length
/-- l with x at its end, if it is not there -/
def put1 (l : List Str) (x : Str) : List Str := if x ∈ l then l else l ++ [x]
theorem put1_len (l : List Str) (x : Str) : (put1 l x).length ≤ l.length + 1 := by
  unfold put1
  by_cases h : x ∈ l
  · rw [if_pos h]; omega
  · rw [if_neg h, List.length_append]; exact Nat.le_refl _
section
variable {P : Program} {w : World} {X : Cx}
theorem txs_ok {H : Hp} {h : Heap} {a : Addr} {l : List Str} (r : h.SetOf (PySem.strKind P w) a (fun k => decide (k ∈ l)) l.length) : ObjOk P w H h a (Txs P w a l) := by
  refine ⟨r, ?_, fun g1 g2 p k => ?_⟩
  · obtain ⟨o, _, _, _, q, _⟩ := r; exact ⟨o, q⟩
  · obtain ⟨o, b1, b2, b3, q, r2⟩ := p; exact ⟨o, b1, b2, b3, k o q, r2⟩
theorem txs_at {pins : List (Addr × Obj)} {σ : L2.St} {H : Hp} {s : Shared} {a : Addr} {l : List Str} (I : Inv X pins σ H s) (e : H a = some (Txs X.prog X.w a l)) : s.heap.SetOf (PySem.strKind X.prog X.w) a (fun k => decide (k ∈ l)) l.length := by
  have z : ObjOk X.prog X.w H s.heap a (.ext fun h => h.SetOf (PySem.strKind X.prog X.w) a (fun k => decide (k ∈ l)) l.length) := I.hok a _ e
  exact z.1
/-- one text more -/
theorem txs_add {pins : List (Addr × Obj)} {σ : L2.St} {H : Hp} {s : Shared} {E : Value → Shared → Prop} {a : Addr} {l : List Str} {x : Str} {t : Tok} {Q : Value → Shared → Prop} (I : Inv X pins σ H s) (e : H a = some (Txs X.prog X.w a l)) (few : l.length + 1 < scanBound)
    (k : ∀ s2, Inv X pins σ (upd H a (Txs X.prog X.w a (put1 l x))) s2 → Q .none s2) : wpAny (model X.prog X.w) X.A (call (.builtin "set.add") [.ref a, .str x t]) Q E s := by
  refine PySem.call_set_add (knd := PySem.strKind X.prog X.w) (strKind_is _ _ _ _) rfl (txs_at I e) few fun h2 sb so => ?_
  have so2 : h2.SetOf (PySem.strKind X.prog X.w) a (fun k' => decide (k' ∈ put1 l x)) (put1 l x).length := SetOf_congr so (fun k' => met_in l x k') (met_size l x)
  have there : ∃ u, h2.get? a = some u := by
    obtain ⟨o, _, _, _, q, _⟩ := so2; exact ⟨o, q⟩
  exact k _ (I.write (t' := s.toks + 1) (x := a) (e := a) (by rw [e]; trivial) (.inl rfl) (fun b u hb q => (sb.2 b hb).trans q) there (txs_ok so2))

/-! ### set(xs) -/
def rSetS (K : PySem.W.Frag) (P : Program) (w : World) : List V → Hp → VK → Prop := fun vs H Q => ∃ (a : Addr) (xs : List Str), vs = [.ref a] ∧ (SqL K H a (xs.map V.str) ∨ SqT K H a (xs.map V.str)) ∧ xs.length + 1 < scanBound ∧
  ∀ p, H p = none → Q (.ref p) (upd H p (Txs P w p (met [] xs)))
theorem cr_setS (hc : X.calm = true) : CallR X (.type "set") (rSetS X.K X.prog X.w) := by
  intro pins s σ H vs us Q I r q
  obtain ⟨a, xs, rfl, sq, few, k⟩ := q
  rw [Vals.ref1 r]
  have new : H s.heap.objs.size = none := I.hok.fresh (Nat.le_refl _)
  have done : ∀ (h2 : Heap) (tk : Nat), h2.SetOf (PySem.strKind X.prog X.w) s.heap.objs.size (fun k' => decide (k' ∈ met [] xs)) (met [] xs).length → (∀ b o, s.heap.get? b = some o → h2.get? b = some o) → EP X pins σ Q (.ref s.heap.objs.size) { s with heap := h2, toks := tk } :=
    fun h2 tk so kp => ⟨.ref s.heap.objs.size, upd H s.heap.objs.size (Txs X.prog X.w s.heap.objs.size (met [] xs)), I.laid (t' := tk) kp (Nat.le_refl _) (txs_ok so), rfl, k _ new⟩
  rcases sq with sq | sq
  · obtain ⟨its, rv, pl, _⟩ := I.list sq
    exact set_list (I.ok.hd hc) pl.isList (by simpa using strsAre_of rv) few done
  · obtain ⟨its, rv, pl, _⟩ := I.tuple sq
    exact set_tuple (I.ok.hd hc) pl (by simpa using strsAre_of rv) few done
/-! ### len of it -/
def rLenTxs (P : Program) (w : World) : List V → Hp → VK → Prop := fun vs H Q => ∃ (a : Addr) (l : List Str), vs = [.ref a] ∧ H a = some (Txs P w a l) ∧ l.length < 1000000 ∧ Q (.int l.length) H
theorem call_lenTxs : CallR X (.builtin "len") (rLenTxs X.prog X.w) := by
  intro pins s σ H vs us Q I r q
  obtain ⟨a, l, rfl, e, few, k⟩ := q
  rw [Vals.ref1 r]
  obtain ⟨o, es, ep, t, ho, ex, dt, _, _, _, fits, n⟩ := txs_at I e
  refine PySem.call_len_set ho ex dt fits (by rw [n]; omega) ⟨.int l.length, H, I.tok _, ⟨_, by rw [n]⟩, k⟩
end

/-! ### {text for ..} -/
/-- the reading: D, the new set -/
def tTxs (P : Program) (w : World) (wi : TI) (g : TG) (tt : TT) (te : TE) (vs : List Nat) : TE := fun σ H Q => wi σ H fun J H1 => ∀ D, H1 D = none → ∃ W : Nat → Nat → Hp → Prop, (∃ m, W 0 m (upd H1 D (Txs P w D []))) ∧ ∀ i m H, W i m H →
  (J.stop i H ∧ Q (.ref D) H) ∨ (J.go i H ∧ ∃ Nx : Hp → Prop, (∀ H', Nx H' → ∃ m', m' < m ∧ W (i + 1) m' H') ∧ ∀ x H', J.yld i H x H' → g x (wipe σ vs) H' fun σ2 H2 => wipe σ2 vs = wipe σ vs ∧ tt σ2 H2 fun b H3 =>
    if b = true then te σ2 H3 fun y H4 => ∃ (z : Str) (l : List Str), y = .str z ∧ H4 D = some (Txs P w D l) ∧ l.length + 1 < scanBound ∧ Nx (upd H4 D (Txs P w D (put1 l z))) else Nx H3)
section
variable {X : Cx} {elt tg iter : Expr} {ifs : List Expr} {scope : Scope} {own : List (PySem.Str × Nat)} {pos pos' : Pos} {wi : TI} {g : TG} {tt : TT} {te : TE}
theorem pe_scT (hc : X.calm = true) (hN : X.N.Nodup) (hi : PI X tg iter wi) (ok : BlkOk X.N X.env.scope scope own)
    (hg : ∀ (u : Shared) (B : Hp) (C : Addr) (cl : List (PySem.Str × Addr)) (fp : List Addr), PG (X.blk u B scope (compEnvC scope cl C X.env) fp) tg g)
    (ht : ∀ (u : Shared) (B : Hp) (C : Addr) (cl : List (PySem.Str × Addr)) (fp : List Addr), PTs (X.blk u B scope (compEnvC scope cl C X.env) fp) ifs tt)
    (he : ∀ (u : Shared) (B : Hp) (C : Addr) (cl : List (PySem.Str × Addr)) (fp : List Addr), PE (X.blk u B scope (compEnvC scope cl C X.env) fp) elt te)
    (hf : ∀ x, foldedSetIterable iter X.env x = pure x := by intro _; rfl) :
    PE X (.SetComp elt [⟨tg, iter, ifs, 0⟩] scope pos) (tTxs X.prog X.w wi g tt te (own.map (·.2))) := by
  refine ⟨fun pins s σ H Q I red => ?_⟩
  rw [PpSet.eval_SetComp]
  have caught : ∀ y ∈ scope.names, y.2 = .free → ∃ c, X.env.cells.lookup y.1 = some c := fun y hy e => (ok.free y hy e).elim (fun k => I.ok.has _ (.inl k)) fun k => I.ok.has _ (.inr k)
  refine wpAny_comprehension_free rfl hf (closure_ok caught) ok.kind (fun y hy e => by rw [ok.uniq y hy, e]) (thn (hi.run pins s σ H _ I red) fun _ s1 r1 => thn r1 fun _ s2 r2 => ?_)
  obtain ⟨it, fp, at_, J, H2, rfl, I2, T, now, apart, rest⟩ := r2
  refine PpSet.newSet_ok (newEnv_comp ?_)
  have noD : H2 s2.heap.objs.size = none := I2.hok.fresh (Nat.le_refl _)
  obtain ⟨W, ⟨m0, w0⟩, turn⟩ := rest _ noD
  generalize eD : s2.heap.objs.size = D at noD w0 turn ⊢
  generalize e3 : ({ s2 with heap := s2.heap.push (bare (!X.w.params.followText "set-order")) } : Shared) = s3
  have g3 : s3.heap = s2.heap.push (bare (!X.w.params.followText "set-order")) := by rw [← e3]
  generalize eH3 : upd H2 D (Txs X.prog X.w D []) = H3 at w0
  have I3 : Inv X pins σ H3 s3 := by
    rw [← e3, ← eH3]
    refine I2.laid (t' := s2.toks) (fun b o q => Heap.get?_push_of_some _ q) (Nat.le_of_eq eD) (txs_ok ?_)
    rw [← eD]
    exact SetOf_congr ((setObjOf_fresh (knd := PySem.strKind X.prog X.w) _).setOf (Heap.get?_push_size _ rfl) (by decide)) (fun _ => rfl) rfl
  have low : ∀ b ∈ fp, b < s2.heap.objs.size := fun b hb => by
    obtain ⟨o, q, _⟩ := T.obj _ _ now b hb; exact Heap.lt_size q
  have fp3 : ∀ b ∈ fp, FpOk X pins H3 b ∧ b < s3.heap.objs.size := fun b hb => by
    refine ⟨⟨?_, (apart b hb).2⟩, by rw [g3, Heap.size_push]; exact Nat.lt_succ_of_lt (low b hb)⟩
    rw [← eH3, upd_ne (by rw [← eD]; exact Nat.ne_of_lt (low b hb))]
    exact (apart b hb).1
  have now3 : at_ 0 s3.heap := T.keep _ _ _ now fun b _ o q => by rw [g3]; exact Heap.get?_push_of_some _ q
  have B4 := block_start I3 ok hN fp3
  generalize eC : compEnvC scope (cellsFrom (s3.heap.objs.size + 1) scope.names (cloFrom X.env.cells scope.names [])) s3.heap.objs.size X.env = ce at B4
  have pG : PG (X.blk s3 H3 scope ce fp) tg g := by rw [← eC]; exact hg _ _ _ _ _
  have pT : PTs (X.blk s3 H3 scope ce fp) ifs tt := by rw [← eC]; exact ht _ _ _ _ _
  have pE : PE (X.blk s3 H3 scope ce fp) elt te := by rw [← eC]; exact he _ _ _ _ _
  have eL : ce.locals = s3.heap.objs.size := by rw [← eC]; rfl
  have fpN : ∀ b ∈ fp, H3 b = none := fun b hb => (fp3 b hb).1.1
  generalize e4 : ({ s3 with heap := pushCells (s3.heap.push { cls := .type "dict", data := .dict #[] }) scope.names } : Shared) = s4 at B4
  have now4 : at_ 0 s4.heap := T.keep _ _ _ now3 fun b _ o q => by rw [← e4]; exact pushCells_keeps _ _ _ _ (Heap.get?_push_of_some _ q)
  show codeAny _ _ (.compStart (.SetComp elt [⟨tg, iter, ifs, 0⟩] scope pos) 0 (.ref it) (.ref D) (compEnvC scope (cellsFrom (s3.heap.objs.size + 1) scope.names (cloFrom X.env.cells scope.names [])) s3.heap.objs.size X.env)) (compPost _ _ _ none _ (.ref D) s3.heap.objs.size) s4
  rw [eC]
  have fpOk : ∀ {σ' : L2.St} {H' : Hp} {s' : Shared}, Inv (X.blk s3 H3 scope ce fp) [] σ' H' s' → (∀ b ∈ fp, H' b = none) → ∀ b ∈ fp, FpOk (X.blk s3 H3 scope ce fp) [] H' b := fun {_ _ _} J' no b hb =>
    ⟨no b hb, (J'.ok.exf b hb).1, J'.ok.exfs b hb, .inl hb, fun x c q => (J'.ok.exf b hb).2 x c q, fun p hp => nomatch (show p ∈ ([] : List (Addr × Obj)) from hp)⟩
  refine PpSet.codeAny_compStart_set ?_ (T.self X.A 0 _ _ _ now4 ?_)
  all_goals
    refine PpSet.compLoopS_any (fun m u => ∃ i G, Inv (X.blk s3 H3 scope ce fp) [] (wipe σ (own.map (·.2))) G u ∧ at_ i u.heap ∧ (∀ b ∈ fp, G b = none) ∧ W i m G) ?_ m0 ⟨0, H3, B4, now4, fpN, w0⟩
    rintro m u ⟨i, G, B5, now5, no5, w5⟩
    rcases turn i m G w5 with ⟨stop, fin⟩ | ⟨go, Nx, less, step⟩
    · refine thnF (T.done (X.blk s3 H3 scope ce fp) rfl rfl rfl hc i [] u _ G (fun _ _ => False) B5 (fpOk B5 no5) now5 stop) fun r s6 ⟨er, B6⟩ => ?_
      subst er
      have I7 : Inv X pins σ G s6 := I3.call' (ch := fp) B6.os B6.base B6.hok B6.bare fun b hb => ⟨(fp3 b hb).1.2.2.2.1, (fp3 b hb).1.2.1, (fp3 b hb).1.2.2.2.2.1, (fp3 b hb).1.2.2.2.2.2⟩
      obtain ⟨mm, ns, _⟩ := B6.loc
      have ns : s6.heap.Ns ce.locals mm := ns
      have noC : G ce.locals = none := B6.free
      rw [eL] at ns noC
      obtain ⟨f0, f1, f2, f3, f4, f5⟩ := I3.fpOk (Nat.le_refl _) noC
      exact ⟨mm, ns, fun h'' sb => ⟨.ref D, G, I7.turned (t' := s6.toks) (fun b o hb q => (sb.2 b hb).trans q) f0 f1 f3 f4 f5, rfl, fin⟩⟩
    · refine thnF (T.item (X.blk s3 H3 scope ce fp) rfl rfl rfl hc i [] u _ G (fun _ _ => False) B5 (fpOk B5 no5) now5 go) fun r s6 ⟨v, er, r6⟩ => ?_
      subst er
      refine thnF r6 fun _ s7 ⟨x, G7, B7, rx, y7, now7, no7⟩ => ?_
      refine thnF (pG.run _ s7 _ G7 x v _ (B7.pinned (fpOk B7 no7) (T.obj _ _ now7)) rx (step x G7 y7)) fun _ s8 ⟨σ8, G8, B8, wp8, q8⟩ => ?_
      refine thnF (pT.run _ s8 σ8 G8 _ B8 q8) fun b s9 ⟨G9, B9, q9⟩ => ?_
      have close : ∀ {u' : Shared} {G' : Hp}, Inv (X.blk s3 H3 scope ce fp) ([] ++ pinsAt fp s7.heap) σ8 G' u' → Nx G' → ∃ m', m' < m ∧ ∃ i' G2, Inv (X.blk s3 H3 scope ce fp) [] (wipe σ (own.map (·.2))) G2 u' ∧ at_ i' u'.heap ∧ (∀ b ∈ fp, G2 b = none) ∧ W i' m' G2 := fun {u' G'} B' nx => by
        obtain ⟨m', lt, w'⟩ := less G' nx
        have held : ∀ b ∈ fp, ∀ o, s7.heap.get? b = some o → u'.heap.get? b = some o ∧ G' b = none := fun b hb o q =>
          ⟨(B'.pin (b, o) (List.mem_append_right _ (List.mem_append_right _ (mem_pinsAt hb q)))).1, (B'.pin (b, o) (List.mem_append_right _ (List.mem_append_right _ (mem_pinsAt hb q)))).2.1⟩
        refine ⟨m', lt, i + 1, G', (B'.unpinned (pins := [])).weak (by rw [← wp8, wipe_length]) (fun j z e => (wipe_some (by rw [wp8]; exact e)).1), T.keep _ _ _ now7 fun b hb o q => (held b hb o q).1, fun b hb => ?_, w'⟩
        obtain ⟨o, q, _⟩ := T.obj _ _ now7 b hb
        exact (held b hb o q).2
      cases b with
      | false =>
        simp only [Bool.false_eq_true, if_false] at q9 ⊢
        exact close B9 q9
      | true =>
        simp only [if_true] at q9 ⊢
        refine thnF (pE.run _ s9 σ8 G9 _ B9 q9) fun z s10 ⟨yv, G10, B10, r10, tx, l0, ey, at10, few, nx⟩ => ?_
        subst ey
        obtain ⟨tk, rfl⟩ := (show ∃ t, z = Value.str tx t from r10)
        exact txs_add (X := X.blk s3 H3 scope ce fp) B10 at10 few fun s11 B11 => close B11 nx
end
end Ssb

/-! Words: a def and its promise in one; data on the heap; loops over dicts. -/
namespace Ssb
open PySem PySem.Spec PyProof.Rows L2
open Evl (Ex Ev EvT EvL EvA EvU)

/-! ### a def of the module, a method of a class, and its promise -/
structure Fn (P : Program) (w : World) (K : PySem.W.Frag) (mg : Str → Option Value) (base : Heap) (nm : Str) (k : Nat) (ps : List Str) (sp : Sp) (f : Addr) (fd : FuncData) : Prop where
  ok : FnOk P w K mg base CX0 k f fd ps sp
  at_ : mg nm = some (.ref f)
  kp : PySem.W.keepIn K (.ref f) = true
  bd : Binds K fd ps []
structure Mt (P : Program) (w : World) (K : PySem.W.Frag) (mg : Str → Option Value) (base : Heap) (C : Addr) (nm : Str) (k : Nat) (ps : List Str) (sp : Sp) (f : Addr) (fd : FuncData) : Prop where
  ok : FnOk P w K mg base CX0 k f fd ps sp
  mt : Meth K C nm f
  bd : Binds K fd ps []
section
variable {X : Cx} {nm : Str} {k j : Nat} {ps : List Str} {sp : Sp} {f : Addr} {fd : FuncData} {p pos : Pos} {e : Expr} {es : List Expr} {t : TA}
theorem pcl (G : Fn X.prog X.w X.K X.mg X.base nm k ps sp f fd) (hr : Room j X.A) (ha : PA X (e :: es) t) (hj : k ≤ j := by first | decide | omega) (hg : Gl X nm := by rfl) (hdb : (nm == ("__debug__" : Str)) = false := by decide)
    (he : starEach (e :: es) X.env = (false, eval e X.env) :: starEach es X.env := by rfl) (hpl : (backTo pos (starEach es X.env)).any (·.1) = false := by rfl) : PE X (.Call (.Name nm p) (e :: es) [] pos) (tCall sp [] E0 t) :=
  pe_call G.ok (hr.mono hj) hg G.at_ G.kp G.bd .nil pass0 ha hdb he hpl
variable {o : Expr} {ta : TE} {apos : Pos} {C : Addr} {pl : Sem Bool}
theorem pmt (ho : PE X o ta) (c : Cls X.K C) (G : Mt X.prog X.w X.K X.mg X.base C nm k ps sp f fd) (hr : Room j X.A) (ha : PA X (e :: es) t) (hj : k ≤ j := by first | decide | omega)
    (he : starEach (e :: es) X.env = (false, eval e X.env) :: starEach es X.env := by rfl) (hpl : (backTo pos (starEach es X.env)).any (·.1) = false := by rfl)
    (ht : eval (.Call (.Attribute o nm apos) (e :: es) [] pos) X.env = (do
      let ov ← eval o X.env
      standAt apos.atName
      let (f, first) ← holding [ov] (getMethod ov nm pl)
      callWith pos f first (backTo pos (starEach (e :: es) X.env)) (backToKw pos (keywordEach [] X.env))) := by rfl) : PE X (.Call (.Attribute o nm apos) (e :: es) [] pos) (tMeth C nm sp [] E0 ta t) :=
  pe_meth ho c G.mt G.ok (hr.mono hj) G.bd .nil pass0 ha he hpl ht
theorem pmt0 (ho : PE X o ta) (c : Cls X.K C) (G : Mt X.prog X.w X.K X.mg X.base C nm k ps sp f fd) (hr : Room j X.A) (hj : k ≤ j := by first | decide | omega)
    (ht : eval (.Call (.Attribute o nm apos) [] [] pos) X.env = (do
      let ov ← eval o X.env
      standAt apos.atName
      let (f, first) ← holding [ov] (getMethod ov nm pl)
      callWith pos f first (backTo pos (starEach [] X.env)) (backToKw pos (keywordEach [] X.env))) := by rfl) : PE X (.Call (.Attribute o nm apos) [] [] pos) (tMeth C nm sp [] E0 ta tNil) :=
  pe_meth0 ho c G.mt G.ok (hr.mono hj) G.bd .nil pass0 ht
/-- a test that is never asked -/
def tNeverT : TT := fun _ _ _ => False
theorem pt_unseen : PT X e tNeverT := ⟨fun _ _ _ _ _ _ h => h.elim⟩
def tNeverE : TE := fun _ _ _ => False
theorem pe_unseen : PE X e tNeverE := ⟨fun _ _ _ _ _ _ h => h.elim⟩
end

/-! ### data, as they stand on the heap: lists and dicts at places of S, a dict never within itself -/
inductive D where
  | non | bl (b : Bool) | int (i : Int) | str (s : Str) | lst (l : List D) | tup (l : List D) | dic (l : List (Str × D))
def Rep (H : Hp) : Nat → (Addr → Prop) → D → V → Prop
  | 0, _, _, _ => False
  | _ + 1, _, .non, v => v = .non
  | _ + 1, _, .bl b, v => v = .bl b
  | _ + 1, _, .int i, v => v = .int i
  | _ + 1, _, .str s, v => v = .str s
  | n + 1, S, .lst l, v => ∃ a xs, v = .ref a ∧ S a ∧ H a = some (.lst xs) ∧ l.length ≤ 100000 ∧ Paired (fun d x => Rep H n S d x) l xs
  | n + 1, S, .tup l, v => ∃ a xs, v = .ref a ∧ H a = some (.tup xs) ∧ l.length ≤ 100000 ∧ Paired (fun d x => Rep H n S d x) l xs
  | n + 1, S, .dic l, v => ∃ a es, v = .ref a ∧ S a ∧ H a = some (.dK es) ∧ l.length ≤ 100000 ∧ Paired (fun (q : Str × D) (e : Key × V) => e.1 = Sum.inr q.1 ∧ Rep H n (fun b => S b ∧ b ≠ a) q.2 e.2) l es
theorem pair_imp {α β : Type} {F G : α → β → Prop} : ∀ {l : List α} {m : List β}, Paired F l m → (∀ a b, F a b → G a b) → Paired G l m
  | _, _, .nil, _ => .nil
  | _, _, .cons h t, k => .cons (k _ _ h) (pair_imp t k)
theorem pair_len {α β : Type} {F : α → β → Prop} : ∀ {l : List α} {m : List β}, Paired F l m → l.length = m.length
  | _, _, .nil => rfl
  | _, _, .cons _ t => congrArg (· + 1) (pair_len t)
theorem pair_at {α β : Type} {F : α → β → Prop} : ∀ {l : List α} {m : List β} {i : Nat} {a : α}, Paired F l m → l[i]? = some a → ∃ b, m[i]? = some b ∧ F a b
  | _, _, _, _, .nil, e => by simp at e
  | _, _, 0, _, .cons h _, e => by
    simp at e; subst e; exact ⟨_, rfl, h⟩
  | _, _, i + 1, _, .cons _ t, e => by
    obtain ⟨b, h1, h2⟩ := pair_at (i := i) t (by simpa using e)
    exact ⟨b, by simpa using h1, h2⟩
theorem pair_back {α β : Type} {F : α → β → Prop} : ∀ {l : List α} {m : List β} {i : Nat} {b : β}, Paired F l m → m[i]? = some b → ∃ a, l[i]? = some a ∧ F a b
  | _, _, _, _, .nil, e => by simp at e
  | _, _, 0, _, .cons h _, e => by
    simp at e; subst e; exact ⟨_, rfl, h⟩
  | _, _, i + 1, _, .cons _ t, e => by
    obtain ⟨b, h1, h2⟩ := pair_back (i := i) t (by simpa using e)
    exact ⟨b, by simpa using h1, h2⟩
theorem pair_app {α β : Type} {F : α → β → Prop} : ∀ {l l' : List α} {m m' : List β}, Paired F l m → Paired F l' m' → Paired F (l ++ l') (m ++ m')
  | _, _, _, _, .nil, t => t
  | _, _, _, _, .cons h r, t => .cons h (pair_app r t)
theorem pair_snoc {α β : Type} {F : α → β → Prop} {l : List α} {m : List β} {a : α} {b : β} (p : Paired F l m) (h : F a b) : Paired F (l ++ [a]) (m ++ [b]) := pair_app p (.cons h .nil)
/-- what is told at the places of S (and of tuples) is all that counts -/
theorem rep_to {H H' : Hp} : ∀ {n : Nat} {S : Addr → Prop} {d : D} {v : V}, (∀ b o, H b = some o → (S b ∨ ∃ xs, o = .tup xs) → H' b = some o) → Rep H n S d v → Rep H' n S d v
  | 0, _, _, _, _, h => h.elim
  | n + 1, S, d, v, k, h => by
    cases d with
    | non => exact h
    | bl b => exact h
    | int i => exact h
    | str s => exact h
    | lst l =>
      obtain ⟨a, xs, e, s, ha, hl, p⟩ := h
      exact ⟨a, xs, e, s, k a _ ha (.inl s), hl, pair_imp p fun d x r => rep_to k r⟩
    | tup l =>
      obtain ⟨a, xs, e, ha, hl, p⟩ := h
      exact ⟨a, xs, e, k a _ ha (.inr ⟨xs, rfl⟩), hl, pair_imp p fun d x r => rep_to k r⟩
    | dic l =>
      obtain ⟨a, es, e, s, ha, hl, p⟩ := h
      exact ⟨a, es, e, s, k a _ ha (.inl s), hl, pair_imp p fun q x r => ⟨r.1, rep_to (fun b o hb z => k b o hb (z.imp (·.1) id)) r.2⟩⟩
theorem rep_ex {H H' : Hp} {n : Nat} {S : Addr → Prop} {d : D} {v : V} (e : Ex H H') (h : Rep H n S d v) : Rep H' n S d v := rep_to (fun b o hb _ => e b o hb) h
theorem rep_S {H : Hp} : ∀ {n : Nat} {S S' : Addr → Prop} {d : D} {v : V}, (∀ b, S b → S' b) → Rep H n S d v → Rep H n S' d v
  | 0, _, _, _, _, _, h => h.elim
  | n + 1, S, S', d, v, k, h => by
    cases d with
    | non => exact h
    | bl b => exact h
    | int i => exact h
    | str s => exact h
    | lst l =>
      obtain ⟨a, xs, e, s, ha, hl, p⟩ := h
      exact ⟨a, xs, e, k a s, ha, hl, pair_imp p fun d x r => rep_S k r⟩
    | tup l =>
      obtain ⟨a, xs, e, ha, hl, p⟩ := h
      exact ⟨a, xs, e, ha, hl, pair_imp p fun d x r => rep_S k r⟩
    | dic l =>
      obtain ⟨a, es, e, s, ha, hl, p⟩ := h
      exact ⟨a, es, e, k a s, ha, hl, pair_imp p fun q x r => ⟨r.1, rep_S (fun b z => ⟨k b z.1, z.2⟩) r.2⟩⟩
theorem rep_up {H : Hp} : ∀ {n : Nat} {S : Addr → Prop} {d : D} {v : V}, Rep H n S d v → Rep H (n + 1) S d v
  | 0, _, _, _, h => h.elim
  | n + 1, S, d, v, h => by
    cases d with
    | non => exact h
    | bl b => exact h
    | int i => exact h
    | str s => exact h
    | lst l =>
      obtain ⟨a, xs, e, s, ha, hl, p⟩ := h
      exact ⟨a, xs, e, s, ha, hl, pair_imp p fun d x r => rep_up r⟩
    | tup l =>
      obtain ⟨a, xs, e, ha, hl, p⟩ := h
      exact ⟨a, xs, e, ha, hl, pair_imp p fun d x r => rep_up r⟩
    | dic l =>
      obtain ⟨a, es, e, s, ha, hl, p⟩ := h
      exact ⟨a, es, e, s, ha, hl, pair_imp p fun q x r => ⟨r.1, rep_up r.2⟩⟩
/-- behind a lock of a, which S does not hold -/
theorem rep_lock {H : Hp} {n : Nat} {S : Addr → Prop} {d : D} {v : V} {a : Addr} {es : List (Key × V)} {u : HO} (ha : H a = some (.dK es)) (hS : ∀ b, S b → b ≠ a) (h : Rep H n S d v) : Rep (upd H a u) n S d v :=
  rep_to (fun b o hb z => by
    have ne : b ≠ a := by
      rcases z with z | ⟨xs, rfl⟩
      · exact hS b z
      · intro e; rw [e, ha] at hb; cases hb
    rw [upd_ne ne]; exact hb) h

/-! ### what a dict tells -/
theorem lk_cons {α : Type} (k j : Str) (d : α) (l : List (Str × α)) : List.lookup k ((j, d) :: l) = if k = j then some d else List.lookup k l := by
  by_cases h : k = j
  · subst h; simp [List.lookup]
  · have e : (k == j) = false := by simpa using h
    rw [if_neg h]; simp [List.lookup, e]
theorem vV_cons (k : Key) (e : Key × V) (l : List (Key × V)) : valV (e :: l) k = if e.1 = k then some e.2 else valV l k := by
  unfold valV
  rw [List.find?_cons]
  by_cases h : e.1 = k
  · rw [decide_eq_true h, if_pos h]; rfl
  · rw [decide_eq_false h, if_neg h]
theorem pair_lk {F : D → V → Prop} : ∀ {l : List (Str × D)} {es : List (Key × V)}, Paired (fun (q : Str × D) (e : Key × V) => e.1 = Sum.inr q.1 ∧ F q.2 e.2) l es → ∀ {k : Str} {d : D}, l.lookup k = some d → ∃ v, valV es (Sum.inr k : Key) = some v ∧ F d v
  | _, _, .nil, k, d, h => by simp [List.lookup] at h
  | (j, d0) :: l, e :: es, .cons h t, k, d, hk => by
    rw [lk_cons] at hk
    rw [vV_cons]
    by_cases c : k = j
    · rw [if_pos c] at hk
      cases hk
      exact ⟨e.2, by rw [if_pos (by rw [h.1, c])], h.2⟩
    · rw [if_neg c] at hk
      obtain ⟨v, h1, h2⟩ := pair_lk t hk
      exact ⟨v, by rw [if_neg (by rw [h.1]; intro z; exact c (Sum.inr.inj z).symm)]; exact h1, h2⟩
theorem pair_no {F : D → V → Prop} : ∀ {l : List (Str × D)} {es : List (Key × V)}, Paired (fun (q : Str × D) (e : Key × V) => e.1 = Sum.inr q.1 ∧ F q.2 e.2) l es → ∀ {k : Str}, l.lookup k = none → valV es (Sum.inr k : Key) = none
  | _, _, .nil, k, h => rfl
  | (j, d0) :: l, e :: es, .cons h t, k, hk => by
    rw [lk_cons] at hk
    rw [vV_cons]
    by_cases c : k = j
    · rw [if_pos c] at hk; cases hk
    · rw [if_neg c] at hk
      rw [if_neg (by rw [h.1]; intro z; exact c (Sum.inr.inj z).symm)]
      exact pair_no t hk

/-! ### expressions that only make objects -/
/-- te gives a v of which P holds (P stays when objects are made) -/
def EvP (te : TE) (σ : L2.St) (H : Hp) (P : V → Hp → Prop) : Prop := ∀ H1, Ex H H1 → ∀ Q : VK, (∀ v H2, Ex H1 H2 → P v H2 → Q v H2) → te σ H1 Q
section
variable {K : PySem.W.Frag} {σ : L2.St} {H H' : Hp} {te ta tb tc : TE} {v x y z : V} {t u : TT}
theorem Ev.p {P : V → Hp → Prop} (h : Ev te σ H v) (hp : ∀ H1, Ex H H1 → P v H1) : EvP te σ H P := fun H1 e Q q => h H1 e Q fun H2 e2 => q v H2 e2 (hp H2 (e.trans e2))
theorem ev_chain {r r' : R2} {b1 b2 : Bool} (ha : Ev ta σ H x) (hb : Ev tb σ H y) (hc : Ev tc σ H z) (h1 : Evl.RV r x y H (.bl b1)) (h2 : Evl.RV r' y z H (.bl b2)) : Ev (tChain r r' ta tb tc) σ H (.bl (b1 && b2)) := fun H1 e Q q =>
  ha H1 e _ fun H2 e2 => hb H2 (e.trans e2) _ fun H3 e3 => h1 H3 ((e.trans e2).trans e3) _ fun H4 e4 => ⟨b1, rfl, by
    cases b1 with
    | true => exact hc H4 (((e.trans e2).trans e3).trans e4) _ fun H5 e5 => h2 H5 ((((e.trans e2).trans e3).trans e4).trans e5) Q fun H6 e6 => q H6 ((((e2.trans e3).trans e4).trans e5).trans e6)
    | false => exact q H4 ((e2.trans e3).trans e4)⟩
theorem ev_isi {n : String} {ty : Value} {b : Bool} (h : Ev te σ H x) (hty : ∀ H1, Ex H H1 → TyX K H1 x ty) (hk : PySem.W.kitOne K ty (.type n) = some b) : Ev (tCB (rIsi K) (tCons te (tCons (tC (.ty n)) tNil))) σ H (.bl b) := fun H1 e Q q =>
  h H1 e _ fun H2 e2 => ⟨x, .ty n, ty, .type n, b, rfl, .ty n, hty H2 (e.trans e2), hk, q H2 e2⟩
theorem ev_isi2 {n m : String} {ty : Value} {b : Bool} (h : Ev te σ H x) (hty : ∀ H1, Ex H H1 → TyX K H1 x ty) (hk : PySem.W.kitAny K ty [.type n, .type m] = some b) :
    Ev (tCB (rIsiT K) (tCons te (tCons (tTup (tCons (tC (.ty n)) (tCons (tC (.ty m)) tNil))) tNil))) σ H (.bl b) := fun H1 e Q q =>
  h H1 e _ fun H2 e2 => ⟨(by show 2 ≤ sizeLine; decide), fun p hp => ⟨x, p, [.ty n, .ty m], ty, [.type n, .type m], b, rfl, upd_same, .cons (.ty n) (.cons (.ty m) .nil), hty _ ((e.trans e2).trans (Ex.new hp)), hk, q _ (e2.trans (Ex.new hp))⟩⟩
theorem ev_all {bs : List Bool} (h : EvL te σ H (bs.map V.bl)) : Ev (tCB (rAll K) (tCons te tNil)) σ H (.bl (bs.all id)) := fun H1 e Q q =>
  h H1 e _ fun p H2 _ e2 hp => ⟨p, bs, rfl, Evl.sq_of hp, q H2 e2⟩
theorem ev_lenS {s : Str} (h : Ev te σ H (.str s)) (hs : s.length ≤ 100000) : Ev (tCB (fun xs H Q => ∃ x n, xs = [x] ∧ LenV K x H n ∧ Q (.int n) H) (tCons te tNil)) σ H (.int (s.length : Int)) := fun H1 e Q q =>
  h H1 e _ fun H2 e2 => ⟨.str s, s.length, rfl, ⟨Evl.sz_of hs, rfl⟩, q H2 e2⟩
theorem ev_lenL {a : Addr} {xs : List V} (h : Ev te σ H (.ref a)) (hx : SqL K H a xs ∨ SqT K H a xs) : Ev (tCB (fun xs H Q => ∃ x n, xs = [x] ∧ LenV K x H n ∧ Q (.int n) H) (tCons te tNil)) σ H (.int (xs.length : Int)) := fun H1 e Q q =>
  h H1 e _ fun H2 e2 => ⟨.ref a, xs.length, rfl, hx.imp (fun z => ⟨xs, Evl.ex_l (e.trans e2) z, rfl⟩) fun z => ⟨xs, Evl.ex_t (e.trans e2) z, rfl⟩, q H2 e2⟩
theorem ev_lenK {a : Addr} {es : List (Key × V)} (h : Ev te σ H (.ref a)) (hx : H a = some (.dK es)) : Ev (tCB (fun xs H Q => ∃ a kvs, xs = [V.ref a] ∧ H a = some (.dK kvs) ∧ Q (.int kvs.length) H) (tCons te tNil)) σ H (.int (es.length : Int)) := fun H1 e Q q =>
  h H1 e _ fun H2 e2 => ⟨a, es, rfl, (e.trans e2) a _ hx, q H2 e2⟩
theorem ev_lenSet {P : Program} {w : World} {a : Addr} {l : List Str} (h : Ev te σ H (.ref a)) (hx : SqL K H a (l.map V.str) ∨ SqT K H a (l.map V.str)) (few : l.length ≤ 1000) :
    Ev (tCB (rLenTxs P w) (tCons (tCB (rSetS K P w) (tCons te tNil)) tNil)) σ H (.int ((met [] l).length : Int)) := fun H1 e Q q =>
  h H1 e _ fun H2 e2 => ⟨a, l, rfl, hx.imp (Evl.ex_l (e.trans e2)) (Evl.ex_t (e.trans e2)), Nat.lt_of_le_of_lt (Nat.add_le_add_right few 1) (by decide), fun p hp => ⟨p, met [] l, rfl, upd_same, by have := met_len l []; simp only [List.length_nil] at this; omega, q _ (e2.trans (Ex.new hp))⟩⟩
theorem ev_get {a : Addr} {es : List (Key × V)} {k : Str} (h : Ev ta σ H (.ref a)) (hk : Ev tb σ H (.str k)) (hx : Rd H a (.dK es)) (hv : valV es (Sum.inr k : Key) = some v) : Ev (tDGet ta tb) σ H v := fun H1 e Q q =>
  h H1 e _ fun H2 e2 => hk H2 (e.trans e2) _ fun H3 e3 => ⟨a, v, rfl, .inl ⟨es, Sum.inr k, Evl.ex_rd ((e.trans e2).trans e3) hx, rfl, hv.symm⟩, q H3 (e2.trans e3)⟩
theorem ev_din {a : Addr} {es : List (Key × V)} {k : Str} (hk : Ev tb σ H (.str k)) (h : Ev ta σ H (.ref a)) (hx : Rd H a (.dK es)) : Ev (tDIn tb ta) σ H (.bl (valV es (Sum.inr k : Key)).isSome) := fun H1 e Q q =>
  hk H1 e _ fun H2 e2 => h H2 (e.trans e2) _ fun H3 e3 => ⟨a, valV es (Sum.inr k), rfl, .inl ⟨es, Sum.inr k, Evl.ex_rd ((e.trans e2).trans e3) hx, rfl, rfl⟩, q H3 (e2.trans e3)⟩
/-- a call whose answer is a plain value -/
theorem ev_fn {sp : Sp} {vs : List V} {ta : TA} (h : EvA ta σ H vs) (hs : ∀ H1, Ex H H1 → ∀ Q : VK, (∀ H2, Ex H1 H2 → Q z H2) → sp vs H1 Q E0) : Ev (tCall sp [] E0 ta) σ H z := fun H1 e Q q =>
  h H1 e _ fun H2 e2 => by
    show sp (vs ++ []) H2 Q E0
    rw [List.append_nil]
    exact hs H2 (e.trans e2) Q fun H3 e3 => q H3 (e2.trans e3)
/-- an argument list whose first item is a new list -/
theorem ev_fnL {sp : Sp} {xs : List V} (h : Ev te σ H x) (hl : EvL tb σ H xs) (hs : ∀ p H1, Ex H H1 → H1 p = some (.lst xs) → ∀ Q : VK, (∀ H2, Ex H1 H2 → Q z H2) → sp [x, .ref p] H1 Q E0) : Ev (tCall sp [] E0 (tCons te (tCons tb tNil))) σ H z := fun H1 e Q q =>
  h H1 e _ fun H2 e2 => hl H2 (e.trans e2) _ fun p H3 _ e3 hp => hs p H3 ((e.trans e2).trans e3) hp Q fun H4 e4 => q H4 ((e2.trans e3).trans e4)
end

/-! ### comprehensions that keep every item -/
section
variable {K : PySem.W.Frag} {σ : L2.St} {H : Hp} {te tl : TE} {vs : List Nat} {J : It} {n : Nat} {G : Hp → Prop} {g : TG}
/-- what the new list holds behind i turns, in a heap that has only grown since H0 -/
def Cm (H0 : Hp) (f : Nat → V) (Dl i : Nat) (H' : Hp) : Prop := H0 Dl = none ∧ Ex H0 H' ∧ H' Dl = some (.lst ((List.range i).map f))
theorem cm_next {H0 H' : Hp} {f : Nat → V} {Dl i : Nat} {σ2 : L2.St} (p : Cm H0 f Dl i H') (hi : i < 100000) (he : Ev te σ2 H0 (f i)) :
    te σ2 H' fun y H4 => ∃ acc, H4 Dl = some (.lst acc) ∧ acc.length < sizeLine ∧ Cm H0 f Dl (i + 1) (upd H4 Dl (.lst (acc ++ [y]))) := by
  obtain ⟨p1, p2, p3⟩ := p
  refine he H' p2 _ fun H4 e4 => ⟨_, e4 Dl _ p3, Evl.sz_lt (by simpa using hi), p1, Ex.mut (p2.trans e4) p1, ?_⟩
  rw [upd_same, List.range_succ, List.map_append]
  rfl
/-- over anything that hands on the items xs and leaves the heap as it is -/
theorem el_walk {xs : List V} {f : Nat → V} (w : Walk J xs.length G (YAt xs)) (hz : xs.length ≤ 100000) {H1 : Hp} (hG : ∀ H', Ex H1 H' → G H') {j : Nat} (hw : ∀ x, wipe ((wipe σ vs).set j (some x)) vs = wipe σ vs)
    (he : ∀ (i : Nat) (x : V), xs[i]? = some x → ∀ H2, Ex H1 H2 → Ev te ((wipe σ vs).set j (some x)) H2 (f i)) {Q : VK} (q : ∀ p H2, H1 p = none → Ex H1 H2 → H2 p = some (.lst ((List.range xs.length).map f)) → Q (.ref p) H2) (Dl : Addr) (hD : H1 Dl = none) :
    ∃ W : Nat → Nat → Hp → Prop, (∃ m, W 0 m (upd H1 Dl (.lst []))) ∧ ∀ i m H, W i m H → (J.stop i H ∧ Q (.ref Dl) H) ∨ (J.go i H ∧ ∃ Nx : Hp → Prop, (∀ H', Nx H' → ∃ m', m' < m ∧ W (i + 1) m' H') ∧ ∀ x H', J.yld i H x H' → gName j x (wipe σ vs) H' fun σ2 H2 =>
      wipe σ2 vs = wipe σ vs ∧ tYes σ2 H2 fun b H3 => if b = true then te σ2 H3 fun y H4 => ∃ acc, H4 Dl = some (.lst acc) ∧ acc.length < sizeLine ∧ Nx (upd H4 Dl (.lst (acc ++ [y]))) else Nx H3) := by
  refine lc_it (g := gName j) (tt := tYes) w (Cm H1 f Dl) ⟨hD, Ex.new hD, upd_same⟩ (fun i H' _ p => hG H' p.2.1) (fun i x H2 H' hi p y => ?_) fun H' p => q Dl H' hD p.2.1 p.2.2
  obtain ⟨rfl, hx⟩ := y
  exact ⟨hw x, cm_next p (by omega) (he i x hx H1 (Ex.refl _))⟩
end
end Ssb

/-! Comprehensions and loops over texts, lists, tuples, dicts (under their lock). -/
namespace Ssb
open PySem PySem.Spec PyProof.Rows L2
open Evl (Ex Ev EvT EvL EvA EvU)
section
variable {K : PySem.W.Frag} {σ : L2.St} {H : Hp} {te tl ta td tb : TE} {vs : List Nat} {j : Nat} {f : Nat → V}
/-- len, list(..), tuple(..), truth: the readings by their names -/
def rLenA (K : PySem.W.Frag) : List V → Hp → VK → Prop := fun xs H Q => ∃ x n, xs = [x] ∧ LenV K x H n ∧ Q (V.int n) H
def rListA (K : PySem.W.Frag) : List V → Hp → VK → Prop := fun xs H Q => ∃ p ys, xs = [V.ref p] ∧ (SqL K H p ys ∨ SqT K H p ys) ∧ ∀ l, H l = none → Q (.ref l) (upd H l (.lst ys))
def rTupA (K : PySem.W.Frag) : List V → Hp → VK → Prop := fun xs H Q => ∃ p ys, xs = [V.ref p] ∧ ((SqL K H p ys ∧ ∀ l, H l = none → Q (.ref l) (upd H l (.tup ys))) ∨ (SqT K H p ys ∧ Q (.ref p) H))
def tTruA (K : PySem.W.Frag) (ta : TE) : TT := fun σ H Q => ta σ H fun x H' => ∃ k, TruV K x H' k ∧ Q k H'
theorem ev_allT {n : Nat} (h : EvL te σ H ((List.range n).map fun _ => V.bl true)) : Ev (tCB (rAll K) (tCons te tNil)) σ H (.bl true) := by
  have e : ((List.range n).map fun _ => V.bl true) = ((List.range n).map fun _ => true).map V.bl := by rw [List.map_map]; rfl
  rw [e] at h
  refine Evl.ev_is (ev_all h) ?_
  congr 1
  rw [List.all_eq_true]
  intro b hb
  obtain ⟨_, _, rfl⟩ := List.mem_map.mp hb
  rfl
theorem el_lcS {s : Str} (h : Ev ta σ H (.str s)) (hz : s.length ≤ 100000) (hw : ∀ x, wipe ((wipe σ vs).set j (some x)) vs = wipe σ vs)
    (he : ∀ (i : Nat) (c : Nat), s.cps[i]? = some c → ∀ H2, Ex H H2 → Ev te ((wipe σ vs).set j (some (.str ⟨#[c]⟩))) H2 (f i)) : EvL (tLc (iStr ta) (gName j) tYes te vs) σ H ((List.range s.length).map f) := fun H1 e Q q =>
  h H1 e _ fun H2 e2 => ⟨s, rfl, fun Dl hD => by
    have w : Walk (Its s) (s.cps.toList.map fun c => V.str ⟨#[c]⟩).length (fun _ => True) (YAt (s.cps.toList.map fun c => V.str ⟨#[c]⟩)) := by
      have l : (s.cps.toList.map fun c => V.str ⟨#[c]⟩).length = s.cps.size := by simp
      rw [l]
      refine walk_str.mono (fun _ z => z) fun i H v H' hi _ y => ?_
      obtain ⟨e, c, hc, rfl⟩ := y
      exact ⟨e, by simp [hc]⟩
    refine el_walk (f := f) w (by rw [List.length_map]; exact hz) (fun _ _ => trivial) hw (fun i x hx H3 e3 => ?_) (fun p H3 hp e3 hl => ?_) Dl hD
    · rw [List.getElem?_map] at hx
      cases hc : s.cps.toList[i]? with
      | none => rw [hc] at hx; cases hx
      | some c =>
        rw [hc] at hx
        cases hx
        exact he i c (by simpa using hc) H3 ((e.trans e2).trans e3)
    · refine q p H3 (Evl.fresh_back e2 hp) (e2.trans e3) ?_
      rw [hl]
      simp [Str.length]⟩
theorem el_lcA {a : Addr} {xs : List V} (h : Ev tl σ H (.ref a)) (hx : SqL K H a xs) (hz : xs.length ≤ 100000) (hw : ∀ x, wipe ((wipe σ vs).set j (some x)) vs = wipe σ vs)
    (he : ∀ (i : Nat) (x : V), xs[i]? = some x → ∀ H2, Ex H H2 → Ev te ((wipe σ vs).set j (some x)) H2 (f i)) : EvL (tLc (iList K tl) (gName j) tYes te vs) σ H ((List.range xs.length).map f) := fun H1 e Q q =>
  h H1 e _ fun H2 e2 => ⟨a, rfl, ⟨xs, Evl.ex_l (e.trans e2) hx⟩, fun Dl hD =>
    el_walk (f := f) walk_list hz (fun H3 e3 => Evl.ex_l ((e.trans e2).trans e3) hx) hw (fun i x h3 H3 e3 => he i x h3 H3 ((e.trans e2).trans e3)) (fun p H3 hp e3 hl => q p H3 (Evl.fresh_back e2 hp) (e2.trans e3) hl) Dl hD⟩
theorem el_lcT {a : Addr} {xs : List V} (h : Ev tl σ H (.ref a)) (hx : SqT K H a xs) (hz : xs.length ≤ 100000) (hw : ∀ x, wipe ((wipe σ vs).set j (some x)) vs = wipe σ vs)
    (he : ∀ (i : Nat) (x : V), xs[i]? = some x → ∀ H2, Ex H H2 → Ev te ((wipe σ vs).set j (some x)) H2 (f i)) : EvL (tLc (iTup K tl) (gName j) tYes te vs) σ H ((List.range xs.length).map f) := fun H1 e Q q =>
  h H1 e _ fun H2 e2 => ⟨a, rfl, ⟨xs, Evl.ex_t (e.trans e2) hx⟩, fun Dl hD =>
    el_walk (f := f) walk_tup hz (fun H3 e3 => Evl.ex_t ((e.trans e2).trans e3) hx) hw (fun i x h3 H3 e3 => he i x h3 H3 ((e.trans e2).trans e3)) (fun p H3 hp e3 hl => q p H3 (Evl.fresh_back e2 hp) (e2.trans e3) hl) Dl hD⟩
/-! ### under a lock -/
theorem unlock {H H' : Hp} {d : Addr} {u u' : HO} (hd : H d = some u) (e : Ex (upd H d u') H') : Ex H (upd H' d u) := fun b o hb => by
  by_cases h : b = d
  · subst h; rw [upd_same]; rw [hd] at hb; exact hb
  · rw [upd_ne h]; exact e b o (by rw [upd_ne h]; exact hb)
theorem lock_keys {d : Addr} {o : Obj} {es : List (Key × V)} : Walk (Itk d o es) (es.map fun e => kV e.1).length (fun H => H d = some (.frz o (.dK es))) (YAt (es.map fun e => kV e.1)) := by
  rw [List.length_map]
  refine walk_keys.mono (fun _ z => z) fun i H x H' _ _ y => ?_
  obtain ⟨e, k, v, hk, rfl⟩ := y
  exact ⟨e, by rw [List.getElem?_map, hk]; rfl⟩
theorem lock_vals {d : Addr} {o : Obj} {es : List (Key × V)} : Walk (Itd d o es) (es.map fun e => e.2).length (fun H => H d = some (.frz o (.dK es))) (YAt (es.map fun e => e.2)) := by
  rw [List.length_map]
  refine walk_values.mono (fun _ z => z) fun i H x H' _ _ y => ?_
  obtain ⟨e, k, hk⟩ := y
  exact ⟨e, by rw [List.getElem?_map, hk]; rfl⟩
theorem el_lcK {d : Addr} {es : List (Key × V)} (h : ∀ H1, Ev td σ H1 (.ref d)) (hd : H d = some (.dK es)) (hz : es.length ≤ 100000) (hw : ∀ x, wipe ((wipe σ vs).set j (some x)) vs = wipe σ vs)
    (he : ∀ (i : Nat) (k : Key) (v : V), es[i]? = some (k, v) → ∀ od H1 H2, Ex H H1 → Ex (upd H1 d (.frz od (.dK es))) H2 → Ev te ((wipe σ vs).set j (some (kV k))) H2 (f i)) : EvL (tLockE (tLc (iKeys td) (gName j) tYes te vs)) σ H ((List.range es.length).map f) := fun H1 e Q q => by
  have hd1 := e d _ hd
  refine ⟨d, .dK es, hd1, trivial, fun od => h _ _ (Ex.refl _) _ fun H2 e2 => ⟨d, od, rfl, .inl ⟨es, e2 d _ upd_same, fun Dl hD => ?_⟩⟩⟩
  refine el_walk (f := f) (Q := fun v H' => H' d = some (.frz od (.dK es)) ∧ Q v (upd H' d (.dK es))) lock_keys (by simpa using hz) (fun H3 e3 => e3 d _ (e2 d _ upd_same)) hw (fun i x hx H3 e3 => ?_) (fun p H3 hp e3 hl => ⟨e3 d _ (e2 d _ upd_same), ?_⟩) Dl hD
  · rw [List.getElem?_map] at hx
    cases hc : es[i]? with
    | none => rw [hc] at hx; cases hx
    | some c =>
      rw [hc] at hx
      cases hx
      exact he i c.1 c.2 hc od H1 H3 e (e2.trans e3)
  · have np : p ≠ d := fun z => by
      have := e2 d _ upd_same
      rw [z, this] at hp; cases hp
    refine q p _ ?_ (unlock hd1 (e2.trans e3)) ?_
    · have := Evl.fresh_back e2 hp
      rw [upd_ne np] at this; exact this
    · rw [upd_ne np, hl, List.length_map]
theorem el_lcV {d : Addr} {es : List (Key × V)} (h : ∀ H1, Ex H H1 → ∀ od, Ev td σ (upd H1 d (.frz od (.dK es))) (.ref d)) (hd : H d = some (.dK es)) (hz : es.length ≤ 100000) (hw : ∀ x, wipe ((wipe σ vs).set j (some x)) vs = wipe σ vs)
    (he : ∀ (i : Nat) (k : Key) (v : V), es[i]? = some (k, v) → ∀ od H1 H2, Ex H H1 → Ex (upd H1 d (.frz od (.dK es))) H2 → Ev te ((wipe σ vs).set j (some v)) H2 (f i)) : EvL (tLockE (tLc (iVals td) (gName j) tYes te vs)) σ H ((List.range es.length).map f) := fun H1 e Q q => by
  have hd1 := e d _ hd
  refine ⟨d, .dK es, hd1, trivial, fun od => h H1 e od _ (Ex.refl _) _ fun H2 e2 => ⟨d, od, es, rfl, e2 d _ upd_same, fun Dl hD => ?_⟩⟩
  refine el_walk (f := f) (Q := fun v H' => H' d = some (.frz od (.dK es)) ∧ Q v (upd H' d (.dK es))) lock_vals (by simpa using hz) (fun H3 e3 => e3 d _ (e2 d _ upd_same)) hw (fun i x hx H3 e3 => ?_) (fun p H3 hp e3 hl => ⟨e3 d _ (e2 d _ upd_same), ?_⟩) Dl hD
  · rw [List.getElem?_map] at hx
    cases hc : es[i]? with
    | none => rw [hc] at hx; cases hx
    | some c =>
      rw [hc] at hx
      cases hx
      exact he i c.1 c.2 hc od H1 H3 e (e2.trans e3)
  · have np : p ≠ d := fun z => by
      have := e2 d _ upd_same
      rw [z, this] at hp; cases hp
    refine q p _ ?_ (unlock hd1 (e2.trans e3)) ?_
    · have := Evl.fresh_back e2 hp
      rw [upd_ne np] at this; exact this
    · rw [upd_ne np, hl, List.length_map]
/-! ### a for under a lock: Pv by the lock's object, the turn, the slots, the heap -/
variable {D : Ends} {ts : TS} {g : TG}
def shut (D : Ends) (d : Addr) (u : HO) (od : Obj) (N : L2.St → Hp → Prop) : Ends :=
  { nx := N, ct := N, bk := fun σ' H' => H' d = some (.frz od u) ∧ D.nx σ' (upd H' d u), rt := fun v H' => H' d = some (.frz od u) ∧ D.rt v (upd H' d u) }
theorem for_lock {d : Addr} {es : List (Key × V)} {J : Obj → It} {ti : TI} {xs : Nat → Option V} (hd : H d = some (.dK es)) (hi : ∀ od R, R (J od) (upd H d (.frz od (.dK es))) → ti σ (upd H d (.frz od (.dK es))) R)
    {Y : Nat → Hp → V → Hp → Prop} (w : ∀ od, Walk (J od) es.length (fun H => H d = some (.frz od (.dK es))) Y) (Pv : Obj → Nat → L2.St → Hp → Prop) (h0 : ∀ od, Pv od 0 σ (upd H d (.frz od (.dK es)))) (hG : ∀ od i σ' H', i ≤ es.length → Pv od i σ' H' → H' d = some (.frz od (.dK es)))
    (hs : ∀ od i x σ' H' H2, i < es.length → Pv od i σ' H' → Y i H' x H2 → g x σ' H2 fun σ2 H3 => ts (shut D d (.dK es) od (Pv od (i + 1))) σ2 H3) (hn : ∀ od σ' H', Pv od es.length σ' H' → D.nx σ' (upd H' d (.dK es))) :
    tLock (tFor ti g ts) D σ H := by
  refine ⟨d, .dK es, hd, trivial, fun od => hi od _ ?_⟩
  exact for_it (w od) (Pv od) (h0 od) (fun i σ' H' hi p => hG od i σ' H' hi p) (fun i x σ' H' H2 hi p y => hs od i x σ' H' H2 hi p y) fun σ' H' p => ⟨hG od _ σ' H' (Nat.le_refl _) p, hn od σ' H' p⟩
end
end Ssb

/-! Comprehensions whose target is unpacked: lists, sets of texts. -/
namespace Ssb
open PySem PySem.Spec PyProof.Rows L2
open Evl (Ex Ev EvT EvL EvA EvU)
/-- the target takes x: the slots are σ2 behind it -/
def Unp (g : TG) (vs : List Nat) (σ σ2 : L2.St) (x : V) (H : Hp) : Prop := wipe σ2 vs = wipe σ vs ∧ ∀ Kont : L2.St → Hp → Prop, Kont σ2 H → g x (wipe σ vs) H Kont
section
variable {K : PySem.W.Frag} {σ : L2.St} {H : Hp} {te tl : TE} {vs : List Nat} {g : TG} {f : Nat → V}
theorem el_lcG {a : Addr} {xs : List V} (h : Ev tl σ H (.ref a)) (hx : SqL K H a xs) (hz : xs.length ≤ 100000) (he : ∀ (i : Nat) (x : V), xs[i]? = some x → ∀ H2, Ex H H2 → ∃ σ2, Unp g vs σ σ2 x H2 ∧ ∀ H3, Ex H H3 → Ev te σ2 H3 (f i)) :
    EvL (tLc (iList K tl) g tYes te vs) σ H ((List.range xs.length).map f) := fun H1 e Q q =>
  h H1 e _ fun H2 e2 => ⟨a, rfl, ⟨xs, Evl.ex_l (e.trans e2) hx⟩, fun Dl hD => by
    refine lc_list (K := K) (a := a) (xs := xs) (Cm H2 f Dl) ⟨hD, Ex.new hD, upd_same⟩ (fun i H' _ p => Evl.ex_l ((e.trans e2).trans p.2.1) hx) (fun i x H' hi p => ?_) fun H' p => q Dl H' (Evl.fresh_back e2 hD) (e2.trans p.2.1) p.2.2
    obtain ⟨σ2, ⟨hw, hk⟩, ev⟩ := he i x hi H' ((e.trans e2).trans p.2.1)
    exact hk _ ⟨hw, cm_next p (by have := (List.getElem?_eq_some_iff.mp hi).1; omega) (ev H2 (e.trans e2))⟩⟩
theorem yes_go {F G : Hp → Prop} (h : F H) : tYes σ H (fun b H3 => if b = true then F H3 else G H3) := by
  show (if true = true then F H else G H)
  rw [if_pos rfl]
  exact h
theorem ev_fld {a C dx : Addr} {fs : List (Str × V)} {v : V} {fn : Str} (h : Ev te σ H (.ref a)) (ho : H a = some (.ins C dx fs)) (c : Cls K C) (n : NoAttr K C fn) (l : fs.lookup fn = some v) : Ev (tFld K te fn) σ H v := fun H1 e Q q =>
  h H1 e _ fun H2 e2 => ⟨a, C, dx, fs, v, rfl, (e.trans e2) _ _ ho, c, n, l, q H2 e2⟩
theorem ev_sum {n : Nat} {c : Nat → Int} (h : EvL te σ H ((List.range n).map fun i => V.int (c i))) : Ev (tCB (rSum K) (tCons te tNil)) σ H (.int ((List.range n).map c).sum) := fun H1 e Q q =>
  h H1 e _ fun p H2 _ e2 hp => ⟨p, (List.range n).map c, rfl, by rw [List.map_map]; exact Evl.sq_of hp, q H2 e2⟩
/-- a pure answer handed on as an argument, a new tuple behind it -/
theorem rv_notN {x : V} : Evl.RV (fun x y H Q => y = .non ∧ Q (.bl (!decide (x = .non))) H) x .non H (.bl (!decide (x = .non))) := fun H1 _ _ q => ⟨rfl, q H1 (Ex.refl _)⟩
theorem rv_isN {x : V} : Evl.RV (fun x y H Q => y = .non ∧ Q (.bl (decide (x = .non))) H) x .non H (.bl (decide (x = .non))) := fun H1 _ _ q => ⟨rfl, q H1 (Ex.refl _)⟩
theorem met_snoc : ∀ (l acc : List Str) (x : Str), met acc (l ++ [x]) = put1 (met acc l) x
  | [], acc, x => rfl
  | y :: l, acc, x => met_snoc l _ x
/-- {name for .. in xs} -/
theorem ex_scG {P : Program} {w : World} {a : Addr} {xs : List V} {nms : List Str} (h : Ev tl σ H (.ref a)) (hx : SqL K H a xs) (hn : nms.length = xs.length) (few : xs.length ≤ 1000)
    (he : ∀ (i : Nat) (x : V), xs[i]? = some x → ∃ s, nms[i]? = some s ∧ ∀ H2, Ex H H2 → ∃ σ2, Unp g vs σ σ2 x H2 ∧ ∀ H3, Ex H H3 → Ev te σ2 H3 (.str s)) :
    Ev (tCB (rLenTxs P w) (tCons (tTxs P w (iList K tl) g tYes te vs) tNil)) σ H (.int ((met [] nms).length : Int)) := fun H1 e Q q =>
  h H1 e _ fun H2 e2 => ⟨a, rfl, ⟨xs, Evl.ex_l (e.trans e2) hx⟩, fun Dl hD => by
    have ml := met_len nms []
    simp only [List.length_nil] at ml
    refine ⟨fun i m H' => m = xs.length - i ∧ i ≤ xs.length ∧ Ex H2 H' ∧ H' Dl = some (Txs P w Dl (met [] (nms.take i))), ⟨xs.length, by simp, Nat.zero_le _, Ex.new hD, upd_same⟩, ?_⟩
    rintro i m H' ⟨rfl, hi, e3, hd⟩
    have sq := Evl.ex_l ((e.trans e2).trans e3) hx
    by_cases hlt : i < xs.length
    · refine .inr ⟨⟨xs, xs[i], sq, by simp [hlt]⟩, fun H' => Ex H2 H' ∧ H' Dl = some (Txs P w Dl (met [] (nms.take (i + 1)))), fun H' p' => ⟨xs.length - (i + 1), by omega, rfl, hlt, p'⟩, fun x H'' y => ?_⟩
      obtain ⟨rfl, y⟩ := y
      obtain ⟨s, hs, he2⟩ := he i x (y xs sq)
      obtain ⟨σ2, ⟨hw, hk⟩, ev⟩ := he2 _ ((e.trans e2).trans e3)
      refine hk _ ⟨hw, ev H2 (e.trans e2) _ e3 _ fun H4 e4 => ⟨s, met [] (nms.take i), rfl, e4 _ _ hd, ?_, Ex.mut (e3.trans e4) hD, ?_⟩⟩
      · have := met_len (nms.take i) []
        simp only [List.length_nil, List.length_take] at this
        exact Nat.lt_of_le_of_lt (show (met [] (nms.take i)).length + 1 ≤ 1001 by omega) (by decide)
      · rw [upd_same, List.take_add_one, hs]
        show _ = some (Txs P w Dl (met [] (nms.take i ++ [s])))
        rw [met_snoc]
    · have ei : i = xs.length := by omega
      subst ei
      refine .inl ⟨⟨xs, sq, Nat.le_refl _⟩, Dl, met [] nms, rfl, ?_, by omega, q H' (e2.trans e3)⟩
      rw [hd, ← hn, List.take_length]⟩
end
end Ssb

namespace Pk
open PySem PySem.Spec PyProof.Rows L2 Ssb
/-- the i-th statement of the text -/
def topS (i : Nat) : Stmt := PySem.Challenge.pw_statestay_k04_rows_counted.main.body.getD i (.Pass ⟨0, 0, 0, 0⟩)
abbrev s_is_word : Stmt := topS 7
theorem sc_is_word : FnScope ["value", "letter"] ["value"] (defScope s_is_word) := ⟨rfl, rfl, rfl, by decide +kernel, rfl, by decide +kernel, by decide +kernel⟩
abbrev s_are_words : Stmt := topS 8
theorem sc_are_words : FnScope ["values", "least", "most", "value"] ["values", "least", "most"] (defScope s_are_words) := ⟨rfl, rfl, rfl, by decide +kernel, rfl, by decide +kernel, by decide +kernel⟩
abbrev s_is_integer : Stmt := topS 9
theorem sc_is_integer : FnScope ["value", "least", "most"] ["value", "least", "most"] (defScope s_is_integer) := ⟨rfl, rfl, rfl, by decide +kernel, rfl, by decide +kernel, by decide +kernel⟩
abbrev s_has_names : Stmt := topS 10
theorem sc_has_names : FnScope ["value", "names", "name"] ["value", "names"] (defScope s_has_names) := ⟨rfl, rfl, rfl, by decide +kernel, rfl, by decide +kernel, by decide +kernel⟩
abbrev s_is_named : Stmt := topS 11
theorem sc_is_named : FnScope ["value", "most", "key"] ["value", "most"] (defScope s_is_named) := ⟨rfl, rfl, rfl, by decide +kernel, rfl, by decide +kernel, by decide +kernel⟩
abbrev s_wrong_part : Stmt := topS 13
theorem sc_wrong_part : FnScope ["flags", "lists", "rows", "name", "parent", "fields"] ["flags", "lists"] (defScope s_wrong_part) := ⟨rfl, rfl, rfl, by decide +kernel, rfl, by decide +kernel, by decide +kernel⟩
abbrev s_are_lists : Stmt := topS 14
theorem sc_are_lists : FnScope ["lists", "outer", "inner"] ["lists"] (defScope s_are_lists) := ⟨rfl, rfl, rfl, by decide +kernel, rfl, by decide +kernel, by decide +kernel⟩
abbrev s_are_list_shapes : Stmt := topS 15
theorem sc_are_list_shapes : FnScope ["lists", "most", "one"] ["lists", "most"] (defScope s_are_list_shapes) := ⟨rfl, rfl, rfl, by decide +kernel, rfl, by decide +kernel, by decide +kernel⟩
abbrev s_list_rows : Stmt := topS 16
theorem sc_list_rows : FnScope ["lists", "rows", "name", "outer", "deep", "inner"] ["lists"] (defScope s_list_rows) := ⟨rfl, rfl, rfl, by decide +kernel, rfl, by decide +kernel, by decide +kernel⟩
abbrev s_are_fields : Stmt := topS 17
theorem sc_are_fields : FnScope ["fields", "words"] ["fields"] (defScope s_are_fields) := ⟨rfl, rfl, rfl, by decide +kernel, rfl, by decide +kernel, by decide +kernel⟩
abbrev s_Shape_init : Stmt := inClass (topS 21) 0
theorem sc_Shape_init : FnScope ["self", "flags", "lists", "part", "name", "parent", "fields"] ["self", "flags", "lists"] (defScope s_Shape_init) := ⟨rfl, rfl, rfl, by decide +kernel, rfl, by decide +kernel, by decide +kernel⟩
abbrev s_Shape_outer : Stmt := inClass (topS 21) 2
theorem sc_Shape_outer : FnScope ["self"] ["self"] (defScope s_Shape_outer) := ⟨rfl, rfl, rfl, by decide +kernel, rfl, by decide +kernel, by decide +kernel⟩
abbrev s_Shape_inner : Stmt := inClass (topS 21) 3
theorem sc_Shape_inner : FnScope ["self", "name"] ["self", "name"] (defScope s_Shape_inner) := ⟨rfl, rfl, rfl, by decide +kernel, rfl, by decide +kernel, by decide +kernel⟩
abbrev s_Shape_fields : Stmt := inClass (topS 21) 4
theorem sc_Shape_fields : FnScope ["self", "name"] ["self", "name"] (defScope s_Shape_fields) := ⟨rfl, rfl, rfl, by decide +kernel, rfl, by decide +kernel, by decide +kernel⟩
abbrev s_Shape_lists_in : Stmt := inClass (topS 21) 6
theorem sc_Shape_lists_in : FnScope ["self", "parent", "name"] ["self", "parent"] (defScope s_Shape_lists_in) := ⟨rfl, rfl, rfl, by decide +kernel, rfl, by decide +kernel, by decide +kernel⟩
abbrev s_Shape_need_list : Stmt := inClass (topS 21) 7
theorem sc_Shape_need_list : FnScope ["self", "name"] ["self", "name"] (defScope s_Shape_need_list) := ⟨rfl, rfl, rfl, by decide +kernel, rfl, by decide +kernel, by decide +kernel⟩
abbrev s_check : Stmt := topS 22
theorem sc_check : FnScope ["shape", "data", "flag"] ["shape", "data"] (defScope s_check) := ⟨rfl, rfl, rfl, by decide +kernel, rfl, by decide +kernel, by decide +kernel⟩
abbrev s_check_words : Stmt := topS 23
theorem sc_check_words : FnScope ["chosen", "choices", "place", "name"] ["chosen", "choices", "place"] (defScope s_check_words) := ⟨rfl, rfl, rfl, by decide +kernel, rfl, by decide +kernel, by decide +kernel⟩
abbrev s_is_choice : Stmt := topS 24
theorem sc_is_choice : FnScope ["value", "several"] ["value", "several"] (defScope s_is_choice) := ⟨rfl, rfl, rfl, by decide +kernel, rfl, by decide +kernel, by decide +kernel⟩
abbrev s_check_lists : Stmt := topS 25
theorem sc_check_lists : FnScope ["shape", "lists", "names", "place", "name"] ["shape", "lists", "names", "place"] (defScope s_check_lists) := ⟨rfl, rfl, rfl, by decide +kernel, rfl, by decide +kernel, by decide +kernel⟩
abbrev s_check_rows : Stmt := topS 26
theorem sc_check_rows : FnScope ["shape", "name", "rows", "place", "earlier", "index", "row"] ["shape", "name", "rows", "place"] (defScope s_check_rows) := ⟨rfl, rfl, rfl, by decide +kernel, rfl, by decide +kernel, by decide +kernel⟩
abbrev s_check_row : Stmt := topS 27
theorem sc_check_row : FnScope ["shape", "name", "row", "earlier", "here"] ["shape", "name", "row", "earlier", "here"] (defScope s_check_row) := ⟨rfl, rfl, rfl, by decide +kernel, rfl, by decide +kernel, by decide +kernel⟩
abbrev s_rows_in : Stmt := topS 28
theorem sc_rows_in : FnScope ["data", "rows", "row"] ["data"] (defScope s_rows_in) := ⟨rfl, rfl, rfl, by decide +kernel, rfl, by decide +kernel, by decide +kernel⟩
abbrev s__law_stream : Stmt := topS 30
theorem sc__law_stream : FnScope ["_law_script", "_law_cells", "_law_cell"] ["_law_script"] (defScope s__law_stream) := ⟨rfl, rfl, rfl, by decide +kernel, rfl, by decide +kernel, by decide +kernel⟩
abbrev s__law_draw : Stmt := topS 31
theorem sc__law_draw : FnScope ["_law_stream_here", "_law_many", "_law_cells", "_law_step", "_law_at", "_law_cell", "_law_number"] ["_law_stream_here", "_law_many"] (defScope s__law_draw) := ⟨rfl, rfl, rfl, by decide +kernel, rfl, by decide +kernel, by decide +kernel⟩
abbrev s__law_same : Stmt := topS 32
theorem sc__law_same : FnScope ["_law_actual", "_law_expected", "_law_key", "_law_k"] ["_law_actual", "_law_expected"] (defScope s__law_same) := ⟨rfl, rfl, rfl, by decide +kernel, rfl, by decide +kernel, by decide +kernel⟩
abbrev s__law_copy : Stmt := topS 33
theorem sc__law_copy : FnScope ["_law_value", "_law_result", "_law_key", "_law_part"] ["_law_value"] (defScope s__law_copy) := ⟨rfl, rfl, rfl, by decide +kernel, rfl, by decide +kernel, by decide +kernel⟩
abbrev s__law_turned : Stmt := topS 34
theorem sc__law_turned : FnScope ["_law_value", "_law_result", "_law_key", "_law_part"] ["_law_value"] (defScope s__law_turned) := ⟨rfl, rfl, rfl, by decide +kernel, rfl, by decide +kernel, by decide +kernel⟩
abbrev s__law_word : Stmt := topS 35
theorem sc__law_word : FnScope ["_law_stream_here", "_law_letters", "_law_size", "_law_number", "_law_word_here", "_law_k"] ["_law_stream_here"] (defScope s__law_word) := ⟨rfl, rfl, rfl, by decide +kernel, rfl, by decide +kernel, by decide +kernel⟩
abbrev s__law_names : Stmt := topS 36
theorem sc__law_names : FnScope ["_law_stream_here", "_law_many", "_law_taken", "_law_names_here", "_law_k", "_law_word_here", "_law_spares", "_law_spare"] ["_law_stream_here", "_law_many", "_law_taken"] (defScope s__law_names) := ⟨rfl, rfl, rfl, by decide +kernel, rfl, by decide +kernel, by decide +kernel⟩
abbrev s__law_fields : Stmt := topS 37
theorem sc__law_fields : FnScope ["_law_stream_here", "_law_most", "_law_fields_here", "_law_name"] ["_law_stream_here", "_law_most"] (defScope s__law_fields) := ⟨rfl, rfl, rfl, by decide +kernel, rfl, by decide +kernel, by decide +kernel⟩
abbrev s__law_lists : Stmt := topS 38
theorem sc__law_lists : FnScope ["_law_stream_here", "_law_most", "_law_names_here", "_law_lists_here", "_law_k", "_law_inner"] ["_law_stream_here", "_law_most"] (defScope s__law_lists) := ⟨rfl, rfl, rfl, by decide +kernel, rfl, by decide +kernel, by decide +kernel⟩
abbrev s__law_rows : Stmt := topS 40
theorem sc__law_rows : FnScope ["_law_stream_here", "_law_described", "_law_most", "_law_rows_here", "_law_k", "_law_taken", "_law_number", "_law_fields_here", "_law_name", "_law_words", "_law_lists_here", "_law_row", "_law_spare"] ["_law_stream_here", "_law_described", "_law_most"] (defScope s__law_rows) := ⟨rfl, rfl, rfl, by decide +kernel, rfl, by decide +kernel, by decide +kernel⟩
abbrev s__law_data : Stmt := topS 41
theorem sc__law_data : FnScope ["_law_stream_here", "_law_flags", "_law_lists_here", "_law_most", "_law_values", "_law_flag", "_law_inside", "_law_name"] ["_law_stream_here", "_law_flags", "_law_lists_here", "_law_most"] (defScope s__law_data) := ⟨rfl, rfl, rfl, by decide +kernel, rfl, by decide +kernel, by decide +kernel⟩
abbrev s__law_count : Stmt := topS 42
theorem sc__law_count : FnScope ["_law_lists_here", "_law_total", "_law_name", "_law_row"] ["_law_lists_here"] (defScope s__law_count) := ⟨rfl, rfl, rfl, by decide +kernel, rfl, by decide +kernel, by decide +kernel⟩
abbrev s__law_edges : Stmt := topS 43
theorem sc__law_edges : FnScope ["_law_lists_here", "_law_number", "_law_name", "_law_rows_here", "_law_row", "_law_other"] ["_law_lists_here", "_law_number"] (defScope s__law_edges) := ⟨rfl, rfl, rfl, by decide +kernel, rfl, by decide +kernel, by decide +kernel⟩
abbrev s_law : Stmt := topS 44
theorem sc_law : FnScope ["_law_script", "_law_stream_here", "_law_turn", "_law_edge", "_law_flags", "_law_lists_here", "_law_data_here", "_law_shape", "_law_passed"] ["_law_script"] (defScope s_law) := ⟨rfl, rfl, rfl, by decide +kernel, rfl, by decide +kernel, by decide +kernel⟩
/-- what the module says of built-ins, constants and classes -/
structure Txt (K : PySem.W.Frag) (mg : Str → Option Value) (C_Shape : Addr) : Prop where
  all : mg "all" = none
  enumerate : mg "enumerate" = none
  int : mg "int" = none
  str : mg "str" = none
  bool : mg "bool" = none
  isinstance : mg "isinstance" = none
  len : mg "len" = none
  list : mg "list" = none
  range : mg "range" = none
  reversed : mg "reversed" = none
  sorted : mg "sorted" = none
  sum : mg "sum" = none
  tuple : mg "tuple" = none
  set : mg "set" = none
  dict : mg "dict" = none
  g_MOST_ROWS : ∃ t, mg "MOST_ROWS" = some (.int 300 t)
  g_GREATEST_ID : ∃ t, mg "GREATEST_ID" = some (.int 1000000 t)
  cl_Shape : Cls K C_Shape
  mk_Shape : PySem.W.makesIn K C_Shape = true
  kp_Shape : PySem.W.keepIn K (.ref C_Shape) = true
  at_Shape : mg "Shape" = some (.ref C_Shape)
  no_Shape_flags : NoAttr K C_Shape "flags"
  no_Shape_table : NoAttr K C_Shape "table"
/-- a def as it stands -/
def Here (K : PySem.W.Frag) (mg : Str → Option Value) (nm : Str) (st : Stmt) : Prop := ∃ f fd, mg nm = some (.ref f) ∧ Fun K nm nm st f fd ∧ PySem.W.keepIn K (.ref f) = true
def HereM (K : PySem.W.Frag) (C : Addr) (nm qual : Str) (st : Stmt) : Prop := ∃ f fd, Fun K nm qual st f fd ∧ PySem.W.findIn K (.ref C) nm = some (some (.ref f)) ∧ PySem.W.isFn K (.ref f) = true ∧ PySem.W.keepIn K (.ref f) = true
structure Prg (K : PySem.W.Frag) (mg : Str → Option Value) (C_Shape : Addr) : Prop where
  is_word : Here K mg "is_word" s_is_word
  are_words : Here K mg "are_words" s_are_words
  is_integer : Here K mg "is_integer" s_is_integer
  has_names : Here K mg "has_names" s_has_names
  is_named : Here K mg "is_named" s_is_named
  wrong_part : Here K mg "wrong_part" s_wrong_part
  are_lists : Here K mg "are_lists" s_are_lists
  are_list_shapes : Here K mg "are_list_shapes" s_are_list_shapes
  list_rows : Here K mg "list_rows" s_list_rows
  are_fields : Here K mg "are_fields" s_are_fields
  Shape_init : HereM K C_Shape "__init__" "Shape.__init__" s_Shape_init
  Shape_outer : HereM K C_Shape "outer" "Shape.outer" s_Shape_outer
  Shape_inner : HereM K C_Shape "inner" "Shape.inner" s_Shape_inner
  Shape_fields : HereM K C_Shape "fields" "Shape.fields" s_Shape_fields
  Shape_lists_in : HereM K C_Shape "lists_in" "Shape.lists_in" s_Shape_lists_in
  Shape_need_list : HereM K C_Shape "need_list" "Shape.need_list" s_Shape_need_list
  check : Here K mg "check" s_check
  check_words : Here K mg "check_words" s_check_words
  is_choice : Here K mg "is_choice" s_is_choice
  check_lists : Here K mg "check_lists" s_check_lists
  check_rows : Here K mg "check_rows" s_check_rows
  check_row : Here K mg "check_row" s_check_row
  rows_in : Here K mg "rows_in" s_rows_in
  _law_stream : Here K mg "_law_stream" s__law_stream
  _law_draw : Here K mg "_law_draw" s__law_draw
  _law_same : Here K mg "_law_same" s__law_same
  _law_copy : Here K mg "_law_copy" s__law_copy
  _law_turned : Here K mg "_law_turned" s__law_turned
  _law_word : Here K mg "_law_word" s__law_word
  _law_names : Here K mg "_law_names" s__law_names
  _law_fields : Here K mg "_law_fields" s__law_fields
  _law_lists : Here K mg "_law_lists" s__law_lists
  _law_rows : Here K mg "_law_rows" s__law_rows
  _law_data : Here K mg "_law_data" s__law_data
  _law_count : Here K mg "_law_count" s__law_count
  _law_edges : Here K mg "_law_edges" s__law_edges
  law : Here K mg "law" s_law
theorem here_mk {K : PySem.W.Frag} {h : Heap} {mg : Str → Option Value} (X : K.In h) (G : h.Ns mainGlobals mg) {nm : Str} {st : Stmt} {f : Addr} {oc : Value} {od an : Option Addr} {sl : Array (Option Value)} {kV dc pm cd ct : Value}
    (a : PySem.W.nsIn K mainGlobals nm = some (some (.ref f))) (l : K.lookup f = some ⟨oc, od, .func (PySem.W.fnOf nm nm (defArgs st) (defBody st) (defScope st) .none kV dc pm an cd ct), sl⟩) (c : PySem.W.codeIn K cd nm = true) (k : PySem.W.keepIn K (.ref f) = true) : Here K mg nm st :=
  ⟨f, _, PySem.W.mg_of X G a, fun_mk (st := st) l c k, k⟩
theorem hereM_mk {K : PySem.W.Frag} {C : Addr} {nm qual : Str} {st : Stmt} {f : Addr} {oc : Value} {od an : Option Addr} {sl : Array (Option Value)} {kV dc pm cd ct : Value}
    (a : PySem.W.findIn K (.ref C) nm = some (some (.ref f))) (i : PySem.W.isFn K (.ref f) = true) (l : K.lookup f = some ⟨oc, od, .func (PySem.W.fnOf nm qual (defArgs st) (defBody st) (defScope st) .none kV dc pm an cd ct), sl⟩) (c : PySem.W.codeIn K cd qual = true) (k : PySem.W.keepIn K (.ref f) = true) : HereM K C nm qual st :=
  ⟨f, _, fun_mk (st := st) l c k, a, i, k⟩
def spLaw (K : PySem.W.Frag) : Sp := fun vs H Q _ => ∃ (a : Addr) (ns : List Int), vs = [.ref a] ∧ SqL K H a (ns.map V.int) ∧ ns.length ≤ 63 ∧ ∀ H', Q (.bl true) H'

end Pk

namespace Pk
open PySem PySem.Spec PyProof.Rows L2 Ssb
open Evl (Ex Ev EvT EvL EvA EvU)
/-! ### promises of defs that hand back True -/
/-- where pre holds, z comes back, and only objects are made -/
def spV (z : V) (pre : List V → Hp → Prop) : Sp := fun vs H Q _ => pre vs H ∧ ∀ H', Ex H H' → Q z H'
theorem spV_ev {z : V} {pre : List V → Hp → Prop} {vs : List V} {ta : TA} {σ : L2.St} {H : Hp} (h : EvA ta σ H vs) (hp : ∀ H1, Ex H H1 → pre vs H1) : Ev (tCall (spV z pre) [] E0 ta) σ H z := ev_fn h fun H1 e Q q => ⟨hp H1 e, q⟩
/-- a word -/
def isW (s : Str) : Prop := 1 ≤ s.length ∧ s.length ≤ 8 ∧ ∀ c ∈ s.cps.toList, 97 ≤ c ∧ c ≤ 122
theorem lt_one {a b : Nat} (h : a ≤ b) : (!decide ([b] < [a])) = true := by
  have : ¬ ([b] < [a]) := by
    intro z
    rcases List.cons_lt_cons_iff.mp z with z | z
    · omega
    · exact absurd z.2 (by simp)
  simp [this]
section
variable {P : Program} {w : World} {K : PySem.W.Frag} {mg : Str → Option Value} {base : Heap} {C_Shape : Addr}
def preWord : List V → Hp → Prop := fun vs _ => ∃ s, vs = [.str s] ∧ isW s
theorem ok_is_word (T : Txt K mg C_Shape) (R : Prg K mg C_Shape) : ∃ f fd, Fn P w K mg base "is_word" 1 ["value"] (spV (.bl true) preWord) f fd := by
  obtain ⟨f, fd, at_, F, kp⟩ := R.is_word
  refine ⟨f, fd, F.ok sc_is_word (fun vs H Q E h => ?_) (fun cdv A outer s H vs Q E hr h => ?_), at_, kp, F.binds (fun _ _ _ _ _ _ us hl => match us, hl with | [_], _ => rfl)⟩
  · obtain ⟨⟨s, rfl, _⟩, _⟩ := h; rfl
  · obtain ⟨⟨x, rfl, h1, h8, hc⟩, k⟩ := h
    refine ⟨_, (pss_cons (ps_if (PW.pt (pw_or (pt_not (pt_val (pe_callB (r := rIsi K) call_isi (by rfl) T.isinstance (by decide +kernel) (pa_cons (pv 0) (pa_cons (pe_bltn (v := .ty "str") (by rfl) T.str boot_str rfl) pa_nil))))) (pw_or1 (pt_not (pt_chain op_le op_le pe_int (pe_callB (r := rLenA K) call_len (by rfl) T.len (by decide +kernel) (pa_cons (pv 0) pa_nil)) pe_int))))) pss_never pss_nil)
  (pss_one (ps_ret (pe_callB (r := rAll K) (cr_all rfl) (by rfl) T.all (by decide +kernel) (pa_cons (pe_lc (own := [("letter", 1)]) rfl sc_is_word.nd (pi_str (pv 0)) (blkOk_by (own := [("letter", 1)]) (N := ["value", "letter"]) (sc := defScope s_is_word) (by decide +kernel)) (fun _ _ _ _ _ => (pg_name (i := 1) sc_is_word.nd rfl (Or.inl rfl))) (fun _ _ _ _ _ => pts_nil) (fun _ _ _ _ _ => (pe_chain op_le_str op_le_str pe_str (pv 1) pe_str))) pa_nil))))), ?_⟩
    refine Evl.q_when (b := false) (Evl.et_or (a := false) (b := false) (Evl.et_not (a := true) (Evl.et_B (ev_isi (Evl.ev_var rfl) (fun H1 _ => .base (.str x)) (kit_ty (by decide +kernel))))) fun _ => Evl.et_not (a := true) (Evl.et_test ?_)) (fun h => nomatch h) fun _ H1 e1 => ?_
    · refine Evl.ev_is (ev_chain Evl.ev_c (ev_lenS (Evl.ev_var rfl) (by omega)) Evl.ev_c Evl.rv_I0 Evl.rv_I0) ?_
      rw [decide_eq_true (by omega : (1 : Int) ≤ (x.length : Int)), decide_eq_true (by omega : (x.length : Int) ≤ 8)]
      rfl
    · refine Evl.s_ret (ev_allT (n := x.length) (el_lcS (Evl.ev_var rfl) (by omega) (fun _ => rfl) fun i c hi H2 e2 => ?_)) fun H2 e2 => k H2 (e1.trans e2)
      obtain ⟨ha, hz⟩ := hc c (by rw [← Array.getElem?_toList] at hi; exact List.mem_of_getElem? hi)
      refine Evl.ev_is (ev_chain (b1 := true) (b2 := true) Evl.ev_c (Evl.ev_var rfl) Evl.ev_c ?_ ?_) rfl
      · exact fun H1 _ Q q => ⟨_, _, rfl, rfl, by rw [show (!decide ((⟨#[c]⟩ : Str).cps.toList < ("a" : Str).cps.toList)) = true from lt_one ha]; exact q H1 (Ex.refl _)⟩
      · exact fun H1 _ Q q => ⟨_, _, rfl, rfl, by rw [show (!decide (("z" : Str).cps.toList < (⟨#[c]⟩ : Str).cps.toList)) = true from lt_one hz]; exact q H1 (Ex.refl _)⟩

/-! ### are_words, of a list and of a tuple -/
def preWords (t : Bool) (K : PySem.W.Frag) : List V → Hp → Prop := fun vs H => ∃ (a : Addr) (xs : List Str) (lo hi : Int), vs = [.ref a, .int lo, .int hi] ∧ (if t = true then SqT K H a (xs.map V.str) else SqL K H a (xs.map V.str)) ∧ xs.length ≤ 1000 ∧ lo ≤ xs.length ∧ (xs.length : Int) ≤ hi ∧ (∀ x ∈ xs, isW x) ∧ xs.Nodup
theorem ok_are_wordsL (T : Txt K mg C_Shape) (R : Prg K mg C_Shape) : ∃ f fd, Fn P w K mg base "are_words" 2 ["values", "least", "most"] (spV (.bl true) (preWords false K)) f fd := by
  obtain ⟨_, _, G_is_word⟩ := ok_is_word (P := P) (w := w) (base := base) T R
  obtain ⟨f, fd, at_, F, kp⟩ := R.are_words
  refine ⟨f, fd, F.ok sc_are_words (fun vs H Q E h => ?_) (fun cdv A outer s H vs Q E hr h => ?_), at_, kp, F.binds (fun _ _ _ _ _ _ us hl => match us, hl with | [_, _, _], _ => rfl)⟩
  · obtain ⟨⟨a, xs, lo, hi, rfl, _⟩, _⟩ := h; rfl
  · obtain ⟨⟨a, xs, lo, hi, rfl, hs, few, hlo, hhi, hw, hn⟩, k⟩ := h
    have hs : SqL K H a (xs.map V.str) := hs
    refine ⟨_, (pss_cons (ps_if (PW.pt (pw_or (pt_not (pt_chain op_le op_le (pv 1) (pe_callB (r := rLenA K) call_len (by rfl) T.len (by decide +kernel) (pa_cons (pv 0) pa_nil)) (pv 2))) (pw_or1 (pt_not (pt_val (pe_callB (r := rAll K) (cr_all rfl) (by rfl) T.all (by decide +kernel) (pa_cons (pe_lc (own := [("value", 3)]) rfl sc_are_words.nd (show PI _ _ _ (iList K _) from pi_list (pv 0)) (blkOk_by (own := [("value", 3)]) (N := ["values", "least", "most", "value"]) (sc := defScope s_are_words) (by decide +kernel)) (fun _ _ _ _ _ => (pg_name (i := 3) sc_are_words.nd rfl (Or.inl rfl))) (fun _ _ _ _ _ => pts_nil) (fun _ _ _ _ _ => (pcl G_is_word hr (pa_cons (pv 3) pa_nil)))) pa_nil))))))) pss_never pss_nil)
  (pss_one (ps_ret (pe_cmpR op_eq (pe_callB call_lenTxs (by rfl) T.len (by decide +kernel) (pa_cons (pe_callTy (r := rSetS K P w) (cr_setS rfl) (by rfl) T.set (by decide +kernel) (pa_cons (pv 0) pa_nil)) pa_nil)) (pe_callB (r := rLenA K) call_len (by rfl) T.len (by decide +kernel) (pa_cons (pv 0) pa_nil)) (nomark _))))), ?_⟩
    refine Evl.q_when (b := false) (Evl.et_or (a := false) (b := false) (Evl.et_not (a := true) (Evl.et_test ?_)) fun _ => Evl.et_not (a := true) (Evl.et_B (ev_allT (el_lcA (Evl.ev_var rfl) hs (by rw [List.length_map]; omega) (fun _ => rfl) fun i x hx H2 e2 => ?_)))) (fun h => nomatch h) fun _ H1 e1 => Evl.s_ret (Evl.ev_is (Evl.ev_op (ev_lenSet (Evl.ev_var rfl) (.inl (Evl.ex_l e1 hs)) few) (ev_lenL (Evl.ev_var rfl) (.inl (Evl.ex_l e1 hs))) (Evl.rv_eq rfl)) ?_) fun H2 e2 => k H2 (e1.trans e2)
    · refine Evl.ev_is (ev_chain (Evl.ev_var rfl) (ev_lenL (Evl.ev_var rfl) (.inl hs)) (Evl.ev_var rfl) Evl.rv_I0 Evl.rv_I0) ?_
      rw [List.length_map, decide_eq_true hlo, decide_eq_true hhi]; rfl
    · obtain ⟨z, hz, rfl⟩ : ∃ z, xs[i]? = some z ∧ x = .str z := by
        rw [List.getElem?_map] at hx
        cases e : xs[i]? with
        | none => rw [e] at hx; cases hx
        | some z => rw [e] at hx; exact ⟨z, rfl, (Option.some.inj hx).symm⟩
      exact spV_ev (Evl.ea_cons (Evl.ev_var rfl) Evl.ea_nil) fun H3 _ => ⟨z, rfl, hw z (List.mem_of_getElem? hz)⟩
    · rw [met_nodup xs [] hn, List.length_map]; simp
theorem ok_are_wordsT (T : Txt K mg C_Shape) (R : Prg K mg C_Shape) : ∃ f fd, Fn P w K mg base "are_words" 2 ["values", "least", "most"] (spV (.bl true) (preWords true K)) f fd := by
  obtain ⟨_, _, G_is_word⟩ := ok_is_word (P := P) (w := w) (base := base) T R
  obtain ⟨f, fd, at_, F, kp⟩ := R.are_words
  refine ⟨f, fd, F.ok sc_are_words (fun vs H Q E h => ?_) (fun cdv A outer s H vs Q E hr h => ?_), at_, kp, F.binds (fun _ _ _ _ _ _ us hl => match us, hl with | [_, _, _], _ => rfl)⟩
  · obtain ⟨⟨a, xs, lo, hi, rfl, _⟩, _⟩ := h; rfl
  · obtain ⟨⟨a, xs, lo, hi, rfl, hs, few, hlo, hhi, hw, hn⟩, k⟩ := h
    have hs : SqT K H a (xs.map V.str) := hs
    refine ⟨_, (pss_cons (ps_if (PW.pt (pw_or (pt_not (pt_chain op_le op_le (pv 1) (pe_callB (r := rLenA K) call_len (by rfl) T.len (by decide +kernel) (pa_cons (pv 0) pa_nil)) (pv 2))) (pw_or1 (pt_not (pt_val (pe_callB (r := rAll K) (cr_all rfl) (by rfl) T.all (by decide +kernel) (pa_cons (pe_lc (own := [("value", 3)]) rfl sc_are_words.nd (show PI _ _ _ (iTup K _) from pi_tup (pv 0)) (blkOk_by (own := [("value", 3)]) (N := ["values", "least", "most", "value"]) (sc := defScope s_are_words) (by decide +kernel)) (fun _ _ _ _ _ => (pg_name (i := 3) sc_are_words.nd rfl (Or.inl rfl))) (fun _ _ _ _ _ => pts_nil) (fun _ _ _ _ _ => (pcl G_is_word hr (pa_cons (pv 3) pa_nil)))) pa_nil))))))) pss_never pss_nil)
  (pss_one (ps_ret (pe_cmpR op_eq (pe_callB call_lenTxs (by rfl) T.len (by decide +kernel) (pa_cons (pe_callTy (r := rSetS K P w) (cr_setS rfl) (by rfl) T.set (by decide +kernel) (pa_cons (pv 0) pa_nil)) pa_nil)) (pe_callB (r := rLenA K) call_len (by rfl) T.len (by decide +kernel) (pa_cons (pv 0) pa_nil)) (nomark _))))), ?_⟩
    refine Evl.q_when (b := false) (Evl.et_or (a := false) (b := false) (Evl.et_not (a := true) (Evl.et_test ?_)) fun _ => Evl.et_not (a := true) (Evl.et_B (ev_allT (el_lcT (Evl.ev_var rfl) hs (by rw [List.length_map]; omega) (fun _ => rfl) fun i x hx H2 e2 => ?_)))) (fun h => nomatch h) fun _ H1 e1 => Evl.s_ret (Evl.ev_is (Evl.ev_op (ev_lenSet (Evl.ev_var rfl) (.inr (Evl.ex_t e1 hs)) few) (ev_lenL (Evl.ev_var rfl) (.inr (Evl.ex_t e1 hs))) (Evl.rv_eq rfl)) ?_) fun H2 e2 => k H2 (e1.trans e2)
    · refine Evl.ev_is (ev_chain (Evl.ev_var rfl) (ev_lenL (Evl.ev_var rfl) (.inr hs)) (Evl.ev_var rfl) Evl.rv_I0 Evl.rv_I0) ?_
      rw [List.length_map, decide_eq_true hlo, decide_eq_true hhi]; rfl
    · obtain ⟨z, hz, rfl⟩ : ∃ z, xs[i]? = some z ∧ x = .str z := by
        rw [List.getElem?_map] at hx
        cases e : xs[i]? with
        | none => rw [e] at hx; cases hx
        | some z => rw [e] at hx; exact ⟨z, rfl, (Option.some.inj hx).symm⟩
      exact spV_ev (Evl.ea_cons (Evl.ev_var rfl) Evl.ea_nil) fun H3 _ => ⟨z, rfl, hw z (List.mem_of_getElem? hz)⟩
    · rw [met_nodup xs [] hn, List.length_map]; simp

/-! ### has_names, is_named -/
def preNames (K : PySem.W.Frag) : List V → Hp → Prop := fun vs H => ∃ (v : V) (a : Addr) (n : Nat) (S : Addr → Prop) (l : List (Str × D)) (ns : List Str), vs = [v, .ref a] ∧ Rep H n S (.dic l) v ∧ SqL K H a (ns.map V.str) ∧ ns.length ≤ 1000 ∧ l.length = ns.length ∧ ∀ x ∈ ns, (l.lookup x).isSome = true
theorem ok_has_names (T : Txt K mg C_Shape) (R : Prg K mg C_Shape) : ∃ f fd, Fn P w K mg base "has_names" 1 ["value", "names"] (spV (.bl true) (preNames K)) f fd := by
  obtain ⟨f, fd, at_, F, kp⟩ := R.has_names
  refine ⟨f, fd, F.ok sc_has_names (fun vs H Q E h => ?_) (fun cdv A outer s H vs Q E hr h => ?_), at_, kp, F.binds (fun _ _ _ _ _ _ us hl => match us, hl with | [_, _], _ => rfl)⟩
  · obtain ⟨⟨v, a, n, S, l, ns, rfl, _⟩, _⟩ := h; rfl
  · obtain ⟨⟨v, a, n, S, l, ns, rfl, hv, ha, hn, hl, hk⟩, k⟩ := h
    cases n with
    | zero => exact hv.elim
    | succ n =>
    obtain ⟨d, es, rfl, _, hd, _, pr⟩ := hv
    have le : es.length = ns.length := (pair_len pr).symm.trans hl
    refine ⟨_, (pss_one (ps_ret (pe_and (pe_callB (r := rIsi K) call_isi (by rfl) T.isinstance (by decide +kernel) (pa_cons (pv 0) (pa_cons (pe_bltn (v := .ty "dict") (by rfl) T.dict boot_dict rfl) pa_nil))) (pe_and (pe_cmpR op_eq (pe_callB call_lenD (by rfl) T.len (by decide +kernel) (pa_cons (pv 0) pa_nil)) (pe_callB (r := rLenA K) call_len (by rfl) T.len (by decide +kernel) (pa_cons (pv 1) pa_nil)) (nomark _)) (pe_one (pe_callB (r := rAll K) (cr_all rfl) (by rfl) T.all (by decide +kernel) (pa_cons (pe_lc (own := [("name", 2)]) rfl sc_has_names.nd (show PI _ _ _ (iList K _) from pi_list (pv 1)) (blkOk_by (own := [("name", 2)]) (N := ["value", "names", "name"]) (sc := defScope s_has_names) (by decide +kernel)) (fun _ _ _ _ _ => (pg_name (i := 2) sc_has_names.nd rfl (Or.inl rfl))) (fun _ _ _ _ _ => pts_nil) (fun _ _ _ _ _ => (pe_cmp (pc_din (hu_of hr) (pv 2) (pv 0)) rfl))) pa_nil))))))), ?_⟩
    refine Evl.s_ret (Evl.ev_is (Evl.ev_andV (a := true) (b := true) (ev_isi (Evl.ev_var rfl) (fun H1 e1 => .base (.dK (e1 _ _ hd))) (kit_ty (by decide +kernel))) fun _ => Evl.ev_is (Evl.ev_andV (a := true) (b := true) (Evl.ev_is (Evl.ev_op (ev_lenK (Evl.ev_var rfl) hd) (ev_lenL (Evl.ev_var rfl) (.inl ha)) (Evl.rv_eq rfl)) ?_) fun _ => ev_allT (el_lcA (Evl.ev_var rfl) ha (by rw [List.length_map]; omega) (fun _ => rfl) fun i x hx H2 e2 => ?_)) rfl) rfl) fun H2 e2 => k H2 e2
    · rw [List.length_map, le]; simp
    · obtain ⟨z, hz, rfl⟩ : ∃ z, ns[i]? = some z ∧ x = .str z := by
        rw [List.getElem?_map] at hx
        cases e : ns[i]? with
        | none => rw [e] at hx; cases hx
        | some z => rw [e] at hx; exact ⟨z, rfl, (Option.some.inj hx).symm⟩
      refine Evl.ev_is (ev_din (Evl.ev_var rfl) (Evl.ev_var rfl) (.inl (e2 _ _ hd))) ?_
      have q := hk z (List.mem_of_getElem? hz)
      cases e : l.lookup z with
      | none => rw [e] at q; cases q
      | some d0 =>
        obtain ⟨v0, hv0, _⟩ := pair_lk pr e
        rw [hv0]; rfl
def preNamed : List V → Hp → Prop := fun vs H => ∃ (v : V) (m : Int) (n : Nat) (S : Addr → Prop) (l : List (Str × D)), vs = [v, .int m] ∧ Rep H n S (.dic l) v ∧ (l.length : Int) ≤ m ∧ ∀ p ∈ l, isW p.1
theorem ok_is_named (T : Txt K mg C_Shape) (R : Prg K mg C_Shape) : ∃ f fd, Fn P w K mg base "is_named" 2 ["value", "most"] (spV (.bl true) preNamed) f fd := by
  obtain ⟨_, _, G_is_word⟩ := ok_is_word (P := P) (w := w) (base := base) T R
  obtain ⟨f, fd, at_, F, kp⟩ := R.is_named
  refine ⟨f, fd, F.ok sc_is_named (fun vs H Q E h => ?_) (fun cdv A outer s H vs Q E hr h => ?_), at_, kp, F.binds (fun _ _ _ _ _ _ us hl => match us, hl with | [_, _], _ => rfl)⟩
  · obtain ⟨⟨v, m, n, S, l, rfl, _⟩, _⟩ := h; rfl
  · obtain ⟨⟨v, m, n, S, l, rfl, hv, hm, hk⟩, k⟩ := h
    cases n with
    | zero => exact hv.elim
    | succ n =>
    obtain ⟨d, es, rfl, _, hd, h5, pr⟩ := hv
    have le : l.length = es.length := pair_len pr
    refine ⟨_, (pss_one (ps_ret (pe_and (pe_callB (r := rIsi K) call_isi (by rfl) T.isinstance (by decide +kernel) (pa_cons (pv 0) (pa_cons (pe_bltn (v := .ty "dict") (by rfl) T.dict boot_dict rfl) pa_nil))) (pe_and (pe_cmpR op_le (pe_callB call_lenD (by rfl) T.len (by decide +kernel) (pa_cons (pv 0) pa_nil)) (pv 1) (nomark _)) (pe_one (pe_callB (r := rAll K) (cr_all rfl) (by rfl) T.all (by decide +kernel) (pa_cons (pe_lock (pe_lc (own := [("key", 2)]) rfl sc_is_named.nd (pi_keys (pv 0)) (blkOk_by (own := [("key", 2)]) (N := ["value", "most", "key"]) (sc := defScope s_is_named) (by decide +kernel)) (fun _ _ _ _ _ => (pg_name (i := 2) sc_is_named.nd rfl (Or.inl rfl))) (fun _ _ _ _ _ => pts_nil) (fun _ _ _ _ _ => (pcl G_is_word hr (pa_cons (pv 2) pa_nil))))) pa_nil))))))), ?_⟩
    refine Evl.s_ret (Evl.ev_is (Evl.ev_andV (a := true) (b := true) (ev_isi (Evl.ev_var rfl) (fun H1 e1 => .base (.dK (e1 _ _ hd))) (kit_ty (by decide +kernel))) fun _ => Evl.ev_is (Evl.ev_andV (a := true) (b := true) (Evl.ev_is (Evl.ev_op (ev_lenK (Evl.ev_var rfl) hd) (Evl.ev_var rfl) Evl.rv_I0) ?_) fun _ => ev_allT (el_lcK (fun H1 => Evl.ev_var rfl) hd (by omega) (fun _ => rfl) fun i x v hx od H1 H2 e1 e2 => ?_)) rfl) rfl) fun H2 e2 => k H2 e2
    · rw [decide_eq_true (by omega : (es.length : Int) ≤ m)]
    · obtain ⟨p, hp, hx1, _⟩ := pair_back pr hx
      have hx1 : x = Sum.inr p.1 := hx1
      subst hx1
      exact spV_ev (Evl.ea_cons (Evl.ev_var rfl) Evl.ea_nil) fun H3 _ => ⟨p.1, rfl, hk p (List.mem_of_getElem? hp)⟩
end
end Pk

namespace Pk
open PySem PySem.Spec PyProof.Rows L2 Ssb
open Evl (Ex Ev EvT EvL EvA EvU)
/-! ### shapes as data -/
abbrev Fl := List (Str × List Str)
def flD (f : Fl) : D := .dic (f.map fun p => (p.1, .tup (p.2.map .str)))
def okFl (f : Fl) : Prop := f.length ≤ 2 ∧ (f.map (·.1)).Nodup ∧ ∀ p ∈ f, isW p.1 ∧ 2 ≤ p.2.length ∧ p.2.length ≤ 3 ∧ (∀ x ∈ p.2, isW x) ∧ p.2.Nodup
abbrev Sh := List (Str × Fl × List (Str × Fl))
def ls0 (d : D) (f : Fl) : Prop := ∃ l, d = .dic l ∧ l.length = 2 ∧ l.lookup ("fields" : Str) = some (flD f) ∧ l.lookup ("inner" : Str) = some (.dic [])
def ls1 (d : D) (f : Fl) (i : List (Str × Fl)) : Prop := ∃ l e, d = .dic l ∧ l.length = 2 ∧ l.lookup ("fields" : Str) = some (flD f) ∧ l.lookup ("inner" : Str) = some (.dic e) ∧ Paired (fun (p : Str × D) (q : Str × Fl) => p.1 = q.1 ∧ ls0 p.2 q.2) e i
def shD (d : D) (s : Sh) : Prop := ∃ l, d = .dic l ∧ Paired (fun (p : Str × D) (q : Str × Fl × List (Str × Fl)) => p.1 = q.1 ∧ ls1 p.2 q.2.1 q.2.2) l s
/-- the rows: a name, the name around it, the fields -/
abbrev Ro := Str × Option Str × Fl
def rowsOf (p : Str × Fl × List (Str × Fl)) : List Ro := (p.1, none, p.2.1) :: p.2.2.map fun q => (q.1, some p.1, q.2)
def rowsS (s : Sh) : List Ro := s.flatMap rowsOf
def okSh (s : Sh) : Prop := s.length ≤ 2 ∧ ((rowsS s).map (·.1)).Nodup ∧ ∀ p ∈ s, isW p.1 ∧ okFl p.2.1 ∧ p.2.2.length ≤ 1 ∧ ∀ q ∈ p.2.2, isW q.1 ∧ okFl q.2
def oV : Option Str → V
  | none => .non
  | some x => .str x
theorem rep_strs {H : Hp} {n : Nat} {S : Addr → Prop} : ∀ {ws : List Str} {xs : List V}, Paired (fun d x => Rep H n S d x) (ws.map D.str) xs → xs = ws.map V.str
  | [], _, .nil => rfl
  | y :: ws, _, .cons h t => by
    cases n with
    | zero => exact h.elim
    | succ n =>
    have h : _ = V.str y := h
    rw [rep_strs t, h]; rfl
theorem rep_words {H : Hp} {n : Nat} {S : Addr → Prop} {ws : List Str} {v : V} (h : Rep H n S (.tup (ws.map .str)) v) : ∃ a, v = .ref a ∧ H a = some (.tup (ws.map V.str)) := by
  cases n with
  | zero => exact h.elim
  | succ n =>
  obtain ⟨a, xs, e, ha, _, pr⟩ := h
  exact ⟨a, e, by rw [ha, rep_strs pr]⟩
/-- within a lock of d -/
theorem rep_in {H1 H2 : Hp} {n : Nat} {S : Addr → Prop} {x : D} {v : V} {d : Addr} {es : List (Key × V)} {u : HO} (hd : H1 d = some (.dK es)) (e2 : Ex (upd H1 d u) H2) (h : Rep H1 n (fun b => S b ∧ b ≠ d) x v) : Rep H2 n (fun b => S b ∧ b ≠ d) x v :=
  rep_ex e2 (rep_lock hd (fun _ z => z.2) h)
section
variable {P : Program} {w : World} {K : PySem.W.Frag} {mg : Str → Option Value} {base : Heap} {C_Shape : Addr}
def preFields : List V → Hp → Prop := fun vs H => ∃ (v : V) (n : Nat) (S : Addr → Prop) (f : Fl), vs = [v] ∧ Rep H n S (flD f) v ∧ okFl f
theorem ok_are_fields (T : Txt K mg C_Shape) (R : Prg K mg C_Shape) : ∃ f fd, Fn P w K mg base "are_fields" 3 ["fields"] (spV (.bl true) preFields) f fd := by
  obtain ⟨_, _, G_is_named⟩ := ok_is_named (P := P) (w := w) (base := base) T R
  obtain ⟨_, _, G_are_words⟩ := ok_are_wordsT (P := P) (w := w) (base := base) T R
  obtain ⟨f, fd, at_, F, kp⟩ := R.are_fields
  refine ⟨f, fd, F.ok sc_are_fields (fun vs H Q E h => ?_) (fun cdv A outer s H vs Q E hr h => ?_), at_, kp, F.binds (fun _ _ _ _ _ _ us hl => match us, hl with | [_], _ => rfl)⟩
  · obtain ⟨⟨v, n, S, f, rfl, _⟩, _⟩ := h; rfl
  · obtain ⟨⟨v, n, S, f, rfl, hv, h2, hnd, hf⟩, k⟩ := h
    cases n with
    | zero => exact hv.elim
    | succ n =>
    obtain ⟨d, es, rfl, _, hd, h5, pr⟩ := id hv
    have le : f.length = es.length := by rw [← pair_len pr, List.length_map]
    refine ⟨_, (pss_cons (ps_if (pt_not (pt_val (pcl G_is_named hr (pa_cons (pv 0) (pa_cons pe_int pa_nil))))) pss_never pss_nil)
  (pss_one (ps_ret (pe_callB (r := rAll K) (cr_all rfl) (by rfl) T.all (by decide +kernel) (pa_cons (pe_lock (pe_lc (own := [("words", 1)]) rfl sc_are_fields.nd (pi_values (pv 0)) (blkOk_by (own := [("words", 1)]) (N := ["fields", "words"]) (sc := defScope s_are_fields) (by decide +kernel)) (fun _ _ _ _ _ => (pg_name (i := 1) sc_are_fields.nd rfl (Or.inl rfl))) (fun _ _ _ _ _ => pts_nil) (fun _ _ _ _ _ => (pe_and (pe_callB (r := rIsi K) call_isi (by rfl) T.isinstance (by decide +kernel) (pa_cons (pv 1) (pa_cons (pe_bltn (v := .ty "tuple") (by rfl) T.tuple boot_tuple rfl) pa_nil))) (pe_one (pcl G_are_words hr (pa_cons (pv 1) (pa_cons pe_int (pa_cons pe_int pa_nil))))))))) pa_nil))))), ?_⟩
    refine Evl.q_when (b := false) (Evl.et_not (a := true) (Evl.et_B (spV_ev (Evl.ea_cons (Evl.ev_var rfl) (Evl.ea_cons Evl.ev_c Evl.ea_nil)) fun H1 e1 => ⟨_, 2, n + 1, S, _, rfl, rep_ex e1 hv, by rw [List.length_map]; omega, fun p hp => ?_⟩))) (fun h => nomatch h) fun _ H1 e1 => Evl.s_ret (ev_allT (el_lcV (fun _ _ _ => Evl.ev_var rfl) (e1 _ _ hd) (by omega) (fun _ => rfl) fun i x v hx od H2 H3 e2 e3 => ?_)) fun H2 e2 => k H2 (e1.trans e2)
    · obtain ⟨q, hq, rfl⟩ := List.mem_map.mp hp
      exact (hf q hq).1
    · obtain ⟨p, hp, _, hr1⟩ := pair_back pr hx
      rw [List.getElem?_map] at hp
      cases ef : f[i]? with
      | none => rw [ef] at hp; cases hp
      | some q =>
        rw [ef] at hp
        cases hp
        obtain ⟨_, ha2, ha3, hw, hn⟩ := hf q (List.mem_of_getElem? ef)
        obtain ⟨a, rfl, ha⟩ := rep_words (rep_in ((e1.trans e2) _ _ hd) e3 (rep_ex (e1.trans e2) hr1))
        exact Evl.ev_is (Evl.ev_andV (a := true) (b := true) (ev_isi (Evl.ev_var rfl) (fun H4 e4 => .base (.tup (e4 _ _ ha))) (kit_ty (by decide +kernel))) fun _ => spV_ev (Evl.ea_cons (Evl.ev_var rfl) (Evl.ea_cons Evl.ev_c (Evl.ea_cons Evl.ev_c Evl.ea_nil))) fun H4 e4 => ⟨a, q.2, 2, 3, rfl, Evl.st_of (e4 _ _ ha), by omega, by omega, by omega, hw, hn⟩) rfl
def preLs : List V → Hp → Prop := fun vs H => ∃ (v : V) (m : Int) (n : Nat) (S : Addr → Prop) (l : List (Str × D)), vs = [v, .int m] ∧ Rep H n S (.dic l) v ∧ (l.length : Int) ≤ m ∧ ∀ p ∈ l, isW p.1 ∧ ∃ l', p.2 = .dic l' ∧ l'.length = 2 ∧ (l'.lookup ("fields" : Str)).isSome = true ∧ (l'.lookup ("inner" : Str)).isSome = true
theorem ok_are_list_shapes (T : Txt K mg C_Shape) (R : Prg K mg C_Shape) : ∃ f fd, Fn P w K mg base "are_list_shapes" 3 ["lists", "most"] (spV (.bl true) preLs) f fd := by
  obtain ⟨_, _, G_is_named⟩ := ok_is_named (P := P) (w := w) (base := base) T R
  obtain ⟨_, _, G_has_names⟩ := ok_has_names (P := P) (w := w) (base := base) T R
  obtain ⟨f, fd, at_, F, kp⟩ := R.are_list_shapes
  refine ⟨f, fd, F.ok sc_are_list_shapes (fun vs H Q E h => ?_) (fun cdv A outer s H vs Q E hr h => ?_), at_, kp, F.binds (fun _ _ _ _ _ _ us hl => match us, hl with | [_, _], _ => rfl)⟩
  · obtain ⟨⟨v, m, n, S, l, rfl, _⟩, _⟩ := h; rfl
  · obtain ⟨⟨v, m, n, S, l, rfl, hv, hm, hl⟩, k⟩ := h
    cases n with
    | zero => exact hv.elim
    | succ n =>
    obtain ⟨d, es, rfl, _, hd, h5, pr⟩ := id hv
    have le : l.length = es.length := pair_len pr
    refine ⟨_, (pss_cons (ps_if (pt_not (pt_val (pcl G_is_named hr (pa_cons (pv 0) (pa_cons (pv 1) pa_nil))))) pss_never pss_nil)
  (pss_one (ps_ret (pe_callB (r := rAll K) (cr_all rfl) (by rfl) T.all (by decide +kernel) (pa_cons (pe_lock (pe_lc (own := [("one", 2)]) rfl sc_are_list_shapes.nd (pi_values (pv 0)) (blkOk_by (own := [("one", 2)]) (N := ["lists", "most", "one"]) (sc := defScope s_are_list_shapes) (by decide +kernel)) (fun _ _ _ _ _ => (pg_name (i := 2) sc_are_list_shapes.nd rfl (Or.inl rfl))) (fun _ _ _ _ _ => pts_nil) (fun _ _ _ _ _ => (pcl G_has_names hr (pa_cons (pv 2) (pa_cons (pe_lst (pa_cons pe_str (pa_cons pe_str pa_nil))) pa_nil)))))) pa_nil))))), ?_⟩
    refine Evl.q_when (b := false) (Evl.et_not (a := true) (Evl.et_B (spV_ev (Evl.ea_cons (Evl.ev_var rfl) (Evl.ea_cons (Evl.ev_var rfl) Evl.ea_nil)) fun H1 e1 => ⟨_, m, n + 1, S, l, rfl, rep_ex e1 hv, hm, fun p hp => (hl p hp).1⟩))) (fun h => nomatch h) fun _ H1 e1 => Evl.s_ret (ev_allT (el_lcV (fun _ _ _ => Evl.ev_var rfl) (e1 _ _ hd) (by omega) (fun _ => rfl) fun i x v hx od H2 H3 e2 e3 => ?_)) fun H2 e2 => k H2 (e1.trans e2)
    obtain ⟨p, hp, _, hr1⟩ := pair_back pr hx
    obtain ⟨_, l', e', hl', hf', hi'⟩ := hl p (List.mem_of_getElem? hp)
    rw [e'] at hr1
    refine ev_fnL (Evl.ev_var rfl) (Evl.el_lst (Evl.ea_cons Evl.ev_c (Evl.ea_cons Evl.ev_c Evl.ea_nil)) (by decide)) fun a H4 e4 ha Q q => ⟨⟨v, a, n, _, l', ["fields", "inner"], rfl, rep_ex e4 (rep_in ((e1.trans e2) _ _ hd) e3 (rep_ex (e1.trans e2) hr1)), Evl.sq_of ha, by decide, hl', fun z hz => ?_⟩, q⟩
    rcases List.mem_cons.mp hz with rfl | hz
    · exact hf'
    · rw [List.mem_singleton.mp hz]; exact hi'
theorem ls0_in {l : List (Str × D)} {i : List (Str × Fl)} (pr : Paired (fun (p : Str × D) (q : Str × Fl) => p.1 = q.1 ∧ ls0 p.2 q.2) l i) (hw : ∀ q ∈ i, isW q.1) : ∀ p ∈ l, isW p.1 ∧ ∃ l', p.2 = .dic l' ∧ l'.length = 2 ∧ (l'.lookup ("fields" : Str)).isSome = true ∧ (l'.lookup ("inner" : Str)).isSome = true := fun p hp => by
  obtain ⟨j, hj, ej⟩ := List.mem_iff_getElem.mp hp
  obtain ⟨q, hq, e1, l', e2, h2, h3, h4⟩ := pair_at pr (i := j) (a := p) (by rw [← ej]; exact List.getElem?_eq_getElem hj)
  exact ⟨e1 ▸ hw q (List.mem_of_getElem? hq), l', e2, h2, by rw [h3]; rfl, by rw [h4]; rfl⟩
theorem ls1_in {l : List (Str × D)} {s : Sh} (pr : Paired (fun (p : Str × D) (q : Str × Fl × List (Str × Fl)) => p.1 = q.1 ∧ ls1 p.2 q.2.1 q.2.2) l s) (hw : ∀ q ∈ s, isW q.1) : ∀ p ∈ l, isW p.1 ∧ ∃ l', p.2 = .dic l' ∧ l'.length = 2 ∧ (l'.lookup ("fields" : Str)).isSome = true ∧ (l'.lookup ("inner" : Str)).isSome = true := fun p hp => by
  obtain ⟨j, hj, ej⟩ := List.mem_iff_getElem.mp hp
  obtain ⟨q, hq, e1, l', e, e2, h2, h3, h4, _⟩ := pair_at pr (i := j) (a := p) (by rw [← ej]; exact List.getElem?_eq_getElem hj)
  exact ⟨e1 ▸ hw q (List.mem_of_getElem? hq), l', e2, h2, by rw [h3]; rfl, by rw [h4]; rfl⟩
/-- an entry of a dict of data -/
theorem rep_entry {H : Hp} {n : Nat} {S : Addr → Prop} {l : List (Str × D)} {k : Str} {d : D} {a : Addr} {es : List (Key × V)} (pr : Paired (fun (q : Str × D) (e : Key × V) => e.1 = Sum.inr q.1 ∧ Rep H n (fun b => S b ∧ b ≠ a) q.2 e.2) l es) (hk : l.lookup k = some d) :
    ∃ v, valV es (Sum.inr k : Key) = some v ∧ Rep H n (fun b => S b ∧ b ≠ a) d v := pair_lk (F := fun d v => Rep H n (fun b => S b ∧ b ≠ a) d v) pr hk
def preLists : List V → Hp → Prop := fun vs H => ∃ (v : V) (n : Nat) (S : Addr → Prop) (d : D) (s : Sh), vs = [v] ∧ Rep H n S d v ∧ shD d s ∧ okSh s
theorem ok_are_lists (T : Txt K mg C_Shape) (R : Prg K mg C_Shape) : ∃ f fd, Fn P w K mg base "are_lists" 4 ["lists"] (spV (.bl true) preLists) f fd := by
  obtain ⟨_, _, G_are_list_shapes⟩ := ok_are_list_shapes (P := P) (w := w) (base := base) T R
  obtain ⟨f, fd, at_, F, kp⟩ := R.are_lists
  refine ⟨f, fd, F.ok sc_are_lists (fun vs H Q E h => ?_) (fun cdv A outer s H vs Q E hr h => ?_), at_, kp, F.binds (fun _ _ _ _ _ _ us hl => match us, hl with | [_], _ => rfl)⟩
  · obtain ⟨⟨v, n, S, d, s, rfl, _⟩, _⟩ := h; rfl
  · obtain ⟨⟨v, n, S, _, z, rfl, hv, ⟨l, rfl, ps⟩, hz2, hznd, hz⟩, k⟩ := h
    cases n with
    | zero => exact hv.elim
    | succ n =>
    obtain ⟨d, es, rfl, _, hd, h5, pr⟩ := id hv
    have le : l.length = es.length := pair_len pr
    have lz : l.length = z.length := pair_len ps
    refine ⟨_, (pss_cons (ps_if (pt_not (pt_val (pcl G_are_list_shapes hr (pa_cons (pv 0) (pa_cons pe_int pa_nil))))) pss_never pss_nil)
  (pss_cons (ps_lock (ps_for PassesOwn.never rfl (pi_values (pv 0)) (pg_name (i := 1) sc_are_lists.nd rfl (Or.inl rfl))
    (pss_cons (ps_if (pt_not (pt_val (pcl G_are_list_shapes hr (pa_cons (pe_dget (hu_of hr) (pv 1) pe_str (fun _ _ => rfl)) (pa_cons pe_int pa_nil))))) pss_never pss_nil)
  (pss_one (ps_if (pt_not (pt_val (pe_callB (r := rAll K) (cr_all rfl) (by rfl) T.all (by decide +kernel) (pa_cons (pe_lock (pe_lc (own := [("inner", 2)]) rfl sc_are_lists.nd (pi_values (pe_dget (hu_of hr) (pv 1) pe_str (fun _ _ => rfl))) (blkOk_by (own := [("inner", 2)]) (N := ["lists", "outer", "inner"]) (sc := defScope s_are_lists) (by decide +kernel)) (fun _ _ _ _ _ => (pg_name (i := 2) sc_are_lists.nd rfl (Or.inl rfl))) (fun _ _ _ _ _ => pts_nil) (fun _ _ _ _ _ => (pcl G_are_list_shapes hr (pa_cons (pe_dget (hu_of hr) (pv 2) pe_str (fun _ _ => rfl)) (pa_cons pe_int pa_nil)))))) pa_nil)))) pss_never pss_nil)))))
  (pss_one (ps_ret pe_bl)))), ?_⟩
    refine Evl.q_when (b := false) (Evl.et_not (a := true) (Evl.et_B (spV_ev (Evl.ea_cons (Evl.ev_var rfl) (Evl.ea_cons Evl.ev_c Evl.ea_nil)) fun H1 e1 => ⟨_, 2, n + 1, S, l, rfl, rep_ex e1 hv, by omega, ls1_in ps fun q hq => (hz q hq).1⟩))) (fun h => nomatch h) fun _ H1 e1 => ?_
    have hd1 := e1 _ _ hd
    refine for_lock (J := fun od => Itd d od es) (xs := fun _ => none) hd1 (fun od R r => ⟨_, rfl, d, od, es, rfl, upd_same, r⟩) (fun od => walk_values) (fun od i σ' H' => ∃ o1, σ' = [some (.ref d), o1, none] ∧ Ex (upd H1 d (.frz od (.dK es))) H') (fun od => ⟨_, rfl, Ex.refl _⟩) (fun od i σ' H' _ ⟨_, _, e⟩ => e _ _ upd_same) (fun od i x σ' H' H2 hi ⟨o1, eσ, e⟩ y => ?_) fun od σ' H' ⟨_, _, e⟩ => k _ (e1.trans (unlock hd1 e))
    subst eσ
    obtain ⟨rfl, key, hx⟩ := y
    obtain ⟨p, hp, _, hr1⟩ := pair_back pr hx
    obtain ⟨q, hq, _, l1, e', ep, _, _, hin, pi⟩ := pair_at ps hp
    obtain ⟨_, _, hq1, hqw⟩ := hz q (List.mem_of_getElem? hq)
    rw [ep] at hr1
    have hr2 := rep_in hd1 e (rep_ex e1 hr1)
    cases n with
    | zero => exact hr2.elim
    | succ n =>
    obtain ⟨de, ee, rfl, ⟨_, nde⟩, hde, _, pe⟩ := id hr2
    obtain ⟨vi, hvi, hri⟩ := rep_entry pe hin
    refine Evl.q_when (b := false) (Evl.et_not (a := true) (Evl.et_B (spV_ev (Evl.ea_cons (ev_get (Evl.ev_var rfl) Evl.ev_c (.inl hde) hvi) (Evl.ea_cons Evl.ev_c Evl.ea_nil)) fun H4 e4 => ⟨_, 1, n, _, e', rfl, rep_ex e4 hri, by rw [pair_len pi]; omega, ls0_in pi fun q' hq' => (hqw q' hq').1⟩))) (fun h => nomatch h) fun _ H4 e4 => ?_
    cases n with
    | zero => exact hri.elim
    | succ n =>
    obtain ⟨di, ei, rfl, ⟨_, ndi⟩, hdi, hl5, pri⟩ := id hri
    have le' := pair_len pri
    refine Evl.s_when (b := false) (Evl.et_not (a := true) (Evl.et_B (ev_allT (el_lcV (fun H5 e5 od' => ?_) (e4 _ _ hdi) (by omega) (fun _ => rfl) fun i' x' v' hx' od' H5 H6 e5 e6 => ?_)))) (fun h => nomatch h) fun _ H5 e5 => ⟨_, rfl, e.trans (e4.trans e5)⟩
    · exact ev_get (Evl.ev_var rfl) Evl.ev_c (.inl (by rw [upd_ne ndi.symm]; exact (e4.trans e5) _ _ hde)) hvi
    · obtain ⟨p', hp', _, hr'⟩ := pair_back pri hx'
      obtain ⟨q', hq', _, l2, ep2, _, _, hin2⟩ := pair_at pi hp'
      rw [ep2] at hr'
      have hr3 := rep_in ((e4.trans e5) _ _ hdi) e6 (rep_ex (e4.trans e5) hr')
      cases n with
      | zero => exact hr3.elim
      | succ n =>
      obtain ⟨dj, ej, rfl, _, hdj, _, pj⟩ := id hr3
      obtain ⟨vj, hvj, hrj⟩ := rep_entry pj hin2
      exact spV_ev (Evl.ea_cons (ev_get (Evl.ev_var rfl) Evl.ev_c (.inl hdj) hvj) (Evl.ea_cons Evl.ev_c Evl.ea_nil)) fun H7 e7 => ⟨_, 0, n, _, [], rfl, rep_ex e7 hrj, by decide, fun _ hm => nomatch hm⟩
end
end Pk

namespace Pk
open PySem PySem.Spec PyProof.Rows L2 Ssb
open Evl (Ex Ev EvT EvL EvA EvU)
/-- a row's tuple at H', its fields as they stand at H -/
def RowAt (H H' : Hp) (n : Nat) (S : Addr → Prop) (r : Ro) (x : V) : Prop := ∃ a fv, x = .ref a ∧ H' a = some (.tup [.str r.1, oV r.2.1, fv]) ∧ Rep H n S (flD r.2.2) fv
theorem rowAt_to {H H' H2 : Hp} {n : Nat} {S : Addr → Prop} {r : Ro} {x : V} (k : ∀ a xs, H' a = some (.tup xs) → H2 a = some (.tup xs)) (h : RowAt H H' n S r x) : RowAt H H2 n S r x := by
  obtain ⟨a, fv, e, ha, hr⟩ := h; exact ⟨a, fv, e, k a _ ha, hr⟩
theorem ex_tup {H H' : Hp} (e : Ex H H') : ∀ a xs, H a = some (.tup xs) → H' a = some (.tup xs) := fun a xs h => e a _ h
theorem upd_tup {H : Hp} {d : Addr} {o u : HO} (hd : H d = some o) (no : ∀ xs, o ≠ .tup xs) : ∀ a xs, H a = some (.tup xs) → (upd H d u) a = some (.tup xs) := fun a xs h => by
  by_cases e : a = d
  · subst e; rw [hd] at h; exact absurd (Option.some.inj h) (no xs)
  · rw [upd_ne e]; exact h
section
variable {P : Program} {w : World} {K : PySem.W.Frag} {mg : Str → Option Value} {base : Heap} {C_Shape : Addr}
def spRows : Sp := fun vs H Q _ => ∃ (v : V) (n : Nat) (S : Addr → Prop) (d : D) (s : Sh), vs = [v] ∧ Rep H n S d v ∧ shD d s ∧ okSh s ∧
  ∀ H' p xs, Ex H H' → H p = none → H' p = some (.lst xs) → Paired (RowAt H H' n S) (rowsS s) xs → Q (.ref p) H'
theorem ok_list_rows (T : Txt K mg C_Shape) (R : Prg K mg C_Shape) : ∃ f fd, Fn P w K mg base "list_rows" 1 ["lists"] spRows f fd := by
  obtain ⟨f, fd, at_, F, kp⟩ := R.list_rows
  refine ⟨f, fd, F.ok sc_list_rows (fun vs H Q E h => ?_) (fun cdv A outer s H vs Q E hr h => ?_), at_, kp, F.binds (fun _ _ _ _ _ _ us hl => match us, hl with | [_], _ => rfl)⟩
  · obtain ⟨v, n, S, d, s, rfl, _⟩ := h; rfl
  · obtain ⟨v, n0, S, _, z, rfl, hv, ⟨l, rfl, ps⟩, ⟨hz2, hznd, hz⟩, k⟩ := h
    cases n0 with
    | zero => exact hv.elim
    | succ n =>
    obtain ⟨d, es, rfl, _, hd, h5, pr⟩ := id hv
    have le : l.length = es.length := pair_len pr
    have lz : l.length = z.length := pair_len ps
    refine ⟨_, (pss_cons (ps_set (i := 1) sc_list_rows.nd rfl (Or.inl rfl) (pe_lst pa_nil))
  (pss_cons (ps_lock (ps_for PassesOwn.never rfl (pi_items (pv 0)) (show PG _ _ (gTup K 2 _) from pg_tup (n := 2) rfl (pgs_cons (pg_name (i := 2) sc_list_rows.nd rfl (Or.inl rfl)) (pgs_cons (pg_name (i := 3) sc_list_rows.nd rfl (Or.inl rfl)) pgs_nil)))
    (pss_cons (ps_expr (show PE _ _ (tBM K _ _ _ _) from pe_bm PySem.F.plainAttrs_list PySem.F.slot_list_append PySem.F.type_list_append mt_append (pv 1) (pa_cons (pe_tup (pa_cons (pv 2) (pa_cons pe_non (pa_cons (pe_dget (hu_of hr) (pv 3) pe_str (fun _ _ => rfl)) pa_nil)))) pa_nil)))
  (pss_one (ps_lock (ps_for PassesOwn.never rfl (pi_items (pe_dget (hu_of hr) (pv 3) pe_str (fun _ _ => rfl))) (show PG _ _ (gTup K 2 _) from pg_tup (n := 2) rfl (pgs_cons (pg_name (i := 4) sc_list_rows.nd rfl (Or.inl rfl)) (pgs_cons (pg_name (i := 5) sc_list_rows.nd rfl (Or.inl rfl)) pgs_nil)))
    (pss_one (ps_expr (show PE _ _ (tBM K _ _ _ _) from pe_bm PySem.F.plainAttrs_list PySem.F.slot_list_append PySem.F.type_list_append mt_append (pv 1) (pa_cons (pe_tup (pa_cons (pv 4) (pa_cons (pv 2) (pa_cons (pe_dget (hu_of hr) (pv 5) pe_str (fun _ _ => rfl)) pa_nil)))) pa_nil))))))))))
  (pss_one (ps_ret (pv 1))))), ?_⟩
    refine Evl.q_asgL (Evl.el_lst Evl.ea_nil (by decide)) fun r H1 hr0 e1 hr1 => ?_
    have hd1 := e1 _ _ hd
    have ndr : r ≠ d := fun e => by rw [e, hd] at hr0; cases hr0
    refine for_lock (J := fun od => Iti d od es) (xs := fun _ => none) hd1 (fun od G g => ⟨_, rfl, d, od, es, rfl, upd_same, g⟩) (fun od => walk_items)
      (fun od i σ' H' => ∃ x2 x3 x4 x5 acc, σ' = [some (.ref d), some (.ref r), x2, x3, x4, x5] ∧ Ex (upd H d (.frz od (.dK es))) H' ∧ H' r = some (.lst acc) ∧ acc.length ≤ 2 * i ∧ Paired (RowAt H H' (n + 1) S) (rowsS (z.take i)) acc)
      (fun od => ⟨_, _, _, _, [], rfl, fun a o ha => ?_, by rw [upd_ne ndr]; exact hr1, Nat.zero_le _, .nil⟩) (fun od i σ' H' _ ⟨_, _, _, _, _, _, e, _⟩ => e _ _ upd_same) (fun od i x σ' H' H2 hi ⟨x2, x3, x4, x5, acc, eσ, e, hacc, hlen, hrows⟩ y => ?_) fun od σ' H' ⟨x2, x3, x4, x5, acc, eσ, e, hacc, hlen, hrows⟩ => ?_
    · by_cases ed : a = d
      · subst ed; rw [upd_same] at ha ⊢; exact ha
      · rw [upd_ne ed] at ha ⊢; exact e1 a o ha
    · subst eσ
      obtain ⟨Tp, x1, v1, rfl, nT, rfl, hx1, hv1⟩ := y
      have hx1 : Option.map (fun kv : Key × V => kV kv.1) es[i]? = some x1 := hx1
      have hv1 : Option.map Prod.snd es[i]? = some v1 := hv1
      cases hes : es[i]? with
      | none => rw [hes] at hx1; cases hx1
      | some kv =>
      rw [hes] at hx1 hv1
      obtain ⟨key, vv⟩ := kv
      obtain ⟨p, hp, hk1, hr2⟩ := pair_back pr hes
      obtain ⟨q, hq, ek, l1, e', ep, _, hfl, hin, pi⟩ := pair_at ps hp
      obtain ⟨_, _, hq1, hqw⟩ := hz q (List.mem_of_getElem? hq)
      have hk1 : key = Sum.inr p.1 := hk1
      have ex1 : x1 = .str q.1 := by rw [← ek, ← Option.some.inj hx1, hk1]; rfl
      have ev1 : vv = v1 := Option.some.inj hv1
      subst ex1; subst ev1
      rw [ep] at hr2
      cases n with
      | zero => exact hr2.elim
      | succ n =>
      obtain ⟨de, ee, hde0, ⟨_, nde⟩, hde, _, pe⟩ := id hr2
      have hde0 : vv = .ref de := hde0
      subst hde0
      obtain ⟨vf, hvf, hrf⟩ := rep_entry pe hfl
      obtain ⟨vi, hvi, hri⟩ := rep_entry pe hin
      have step : ∀ {Hx : Hp}, Ex H' Hx → ∀ {a : Addr} {o : HO}, H a = some o → a ≠ d → Hx a = some o := fun ex a o ha hne => ex a o (e a o (by rw [upd_ne hne]; exact ha))
      have nTr : Tp ≠ r := fun z => by rw [z, hacc] at nT; cases nT
      refine ⟨Tp, [.str q.1, .ref de], rfl, Evl.st_of upd_same, rfl, _, _, rfl, _, _, rfl, rfl, ?_⟩
      have eT : Ex H' (upd H' Tp (.tup [.str q.1, .ref de])) := Ex.new nT
      refine Evl.q_appU (l := r) (eT _ _ hacc) (Evl.ev_var rfl) (Evl.eu_tup (Evl.ea_cons (Evl.ev_var rfl) (Evl.ea_cons Evl.ev_c (Evl.ea_cons (ev_get (Evl.ev_var rfl) Evl.ev_c (.inl (step eT hde nde)) hvf) Evl.ea_nil))) (by show 3 ≤ 100000; decide)) (by omega) fun tp H3 htp0 e3 htp => ?_
      have htr : tp ≠ r := fun z => by rw [z, eT _ _ hacc] at htp0; cases htp0
      have er0 : H r = none := hr0
      cases n with
      | zero => exact hri.elim
      | succ n =>
      obtain ⟨di, ei, hdi0, ⟨⟨_, ndi⟩, ndie⟩, hdi, hl5, pri⟩ := id hri
      have ndir : di ≠ r := fun z => by rw [z, er0] at hdi; cases hdi
      subst hdi0
      -- the heap behind the first append
      have e4 : Ex (upd H d (.frz od (.dK es))) (upd H3 r (.lst (acc ++ [.ref tp]))) := by
        refine Ex.mut (e.trans (eT.trans e3)) ?_
        rw [upd_ne ndr]; exact er0
      have hdi4 : (upd H3 r (.lst (acc ++ [.ref tp]))) di = some (.dK ei) := e4 _ _ (by rw [upd_ne ndi]; exact hdi)
      have hde4 : (upd H3 r (.lst (acc ++ [.ref tp]))) de = some (.dK ee) := e4 _ _ (by rw [upd_ne nde]; exact hde)
      have rows4 : Paired (RowAt H (upd H3 r (.lst (acc ++ [.ref tp]))) (n + 1 + 1 + 1) S) (rowsS (z.take i) ++ [(q.1, none, q.2.1)]) (acc ++ [.ref tp]) := by
        have tt : ∀ a xs, H3 a = some (.tup xs) → (upd H3 r (.lst (acc ++ [.ref tp]))) a = some (.tup xs) := upd_tup (e3 _ _ (eT _ _ hacc)) (fun xs h => nomatch h)
        refine pair_snoc (pair_imp hrows fun a b h => rowAt_to (fun a xs h => tt a xs (e3 _ _ (eT _ _ h))) h) ⟨tp, vf, rfl, tt _ _ htp, rep_up (rep_up (rep_S (fun b hb => hb.1.1) hrf))⟩
      have lei := pair_len pri
      have lepi := pair_len pi
      refine for_lock (J := fun od2 => Iti di od2 ei) (xs := fun _ => none) hdi4 (fun od2 G g => ⟨.ref de, rfl, de, .ref di, rfl, .inl ⟨ee, Sum.inr "inner", .inl (by rw [upd_ne ndie.symm]; exact hde4), rfl, hvi.symm⟩, di, od2, ei, rfl, upd_same, g⟩) (fun od2 => walk_items)
        (fun od2 j σ' H5 => ∃ y4 y5 acc2, σ' = [some (.ref d), some (.ref r), some (.str q.1), some (.ref de), y4, y5] ∧ Ex (upd (upd H d (.frz od (.dK es))) di (.frz od2 (.dK ei))) H5 ∧ H5 r = some (.lst acc2) ∧ acc2.length ≤ 2 * i + 1 + j ∧ Paired (RowAt H H5 (n + 1 + 1 + 1) S) (rowsS (z.take i) ++ (q.1, none, q.2.1) :: (q.2.2.take j).map fun g => (g.1, some q.1, g.2)) acc2)
        (fun od2 => ?_) (fun od2 j σ' H5 _ ⟨_, _, _, _, e5, _⟩ => e5 _ _ upd_same) (fun od2 j x σ' H5 H6 hj ⟨y4, y5, acc2, eσ, e5, hacc2, hlen2, hrows2⟩ y => ?_) fun od2 σ' H5 ⟨y4, y5, acc2, eσ, e5, hacc2, hlen2, hrows2⟩ => ?_
      · -- ahead of the inner loop
        refine ⟨_, _, acc ++ [.ref tp], rfl, fun a o ha => ?_, by rw [upd_ne ndir.symm, upd_same], by rw [List.length_append, List.length_singleton]; omega, pair_imp rows4 fun a b h => rowAt_to (upd_tup hdi4 (fun xs h => nomatch h)) h⟩
        by_cases ed : a = di
        · subst ed; rw [upd_same] at ha ⊢; exact ha
        · rw [upd_ne ed] at ha ⊢; exact e4 a o ha
      · -- a turn of the inner loop
        subst eσ
        obtain ⟨Tq, x1, v1, rfl, nT2, rfl, hx1, hv1⟩ := y
        have hx1 : Option.map (fun kv : Key × V => kV kv.1) ei[j]? = some x1 := hx1
        have hv1 : Option.map Prod.snd ei[j]? = some v1 := hv1
        cases hei : ei[j]? with
        | none => rw [hei] at hx1; cases hx1
        | some kv =>
        rw [hei] at hx1 hv1
        obtain ⟨key, vv⟩ := kv
        obtain ⟨p2, hp2, hk2, hr3⟩ := pair_back pri hei
        obtain ⟨q2, hq2, ek2, l2, ep2, _, hfl2, _⟩ := pair_at pi hp2
        have hk2 : key = Sum.inr p2.1 := hk2
        have ex2 : x1 = .str q2.1 := by rw [← ek2, ← Option.some.inj hx1, hk2]; rfl
        have ev2 : vv = v1 := Option.some.inj hv1
        subst ex2; subst ev2
        rw [ep2] at hr3
        cases n with
        | zero => exact hr3.elim
        | succ n =>
        obtain ⟨dj, ej, hdj0, ⟨⟨⟨_, ndj⟩, ndje⟩, ndji⟩, hdj, _, pj⟩ := id hr3
        have hdj0 : vv = .ref dj := hdj0
        subst hdj0
        obtain ⟨vg, hvg, hrg⟩ := rep_entry pj hfl2
        refine ⟨Tq, [.str q2.1, .ref dj], rfl, Evl.st_of upd_same, rfl, _, _, rfl, _, _, rfl, rfl, ?_⟩
        have eT2 : Ex H5 (upd H5 Tq (.tup [.str q2.1, .ref dj])) := Ex.new nT2
        refine Evl.s_appU (l := r) (eT2 _ _ hacc2) (Evl.ev_var rfl) (Evl.eu_tup (Evl.ea_cons (Evl.ev_var rfl) (Evl.ea_cons (Evl.ev_var rfl) (Evl.ea_cons (ev_get (Evl.ev_var rfl) Evl.ev_c (.inl (eT2 _ _ (e5 _ _ (by rw [upd_ne ndji, upd_ne ndj]; exact hdj)))) hvg) Evl.ea_nil))) (by show 3 ≤ 100000; decide)) (by omega) fun tq H7 htq0 e7 htq => ?_
        have r5 : (upd (upd H d (.frz od (.dK es))) di (.frz od2 (.dK ei))) r = none := by rw [upd_ne ndir.symm, upd_ne ndr]; exact er0
        refine ⟨_, _, acc2 ++ [.ref tq], rfl, Ex.mut (e5.trans (eT2.trans e7)) r5, upd_same, by rw [List.length_append, List.length_singleton]; omega, ?_⟩
        have tt : ∀ a xs, H7 a = some (.tup xs) → (upd H7 r (.lst (acc2 ++ [.ref tq]))) a = some (.tup xs) := upd_tup (e7 _ _ (eT2 _ _ hacc2)) (fun xs h => nomatch h)
        have ej2 : (q.2.2.take (j + 1)) = q.2.2.take j ++ [q2] := by rw [List.take_add_one, hq2]; rfl
        rw [ej2, List.map_append]
        have := pair_snoc (pair_imp hrows2 fun a b h => rowAt_to (fun a xs h => tt a xs (e7 _ _ (eT2 _ _ h))) h) (a := (q2.1, some q.1, q2.2)) (b := V.ref tq) ⟨tq, vg, rfl, tt _ _ htq, rep_up (rep_up (rep_up (rep_up (rep_S (fun b hb => hb.1.1.1.1) hrg))))⟩
        rw [List.append_assoc] at this
        exact this
      · -- behind the inner loop
        subst eσ
        refine ⟨_, _, _, _, acc2, rfl, ?_, by rw [upd_ne ndir.symm]; exact hacc2, by omega, ?_⟩
        · refine Ex.trans ?_ (unlock (u := .dK ei) (u' := .frz od2 (.dK ei)) ?_ e5)
          · exact Ex.refl _
          · rw [upd_ne ndi]; exact hdi
        · have ez : rowsS (z.take (i + 1)) = rowsS (z.take i) ++ (q.1, none, q.2.1) :: (q.2.2.take ei.length).map fun g => (g.1, some q.1, g.2) := by
            rw [List.take_add_one, hq]
            have et : q.2.2.take ei.length = q.2.2 := List.take_of_length_le (by omega)
            show (z.take i ++ [q]).flatMap rowsOf = _
            rw [List.flatMap_append, et]
            simp [rowsS, rowsOf]
          rw [ez]
          have hdi5 := e5 _ _ (upd_same (H := upd H d (.frz od (.dK es))))
          exact pair_imp hrows2 fun a b h => rowAt_to (upd_tup hdi5 (fun xs h => nomatch h)) h
    · subst eσ
      refine ⟨.ref r, rfl, k _ r acc (unlock hd e) hr0 (by rw [upd_ne ndr]; exact hacc) ?_⟩
      have ez : z.take es.length = z := List.take_of_length_le (by omega)
      rw [ez] at hrows
      have hd5 := e _ _ (upd_same (H := H))
      exact pair_imp hrows fun a b h => rowAt_to (upd_tup hd5 (fun xs h => nomatch h)) h
end
end Pk

namespace Pk
open PySem PySem.Spec PyProof.Rows L2 Ssb
open Evl (Ex Ev EvT EvL EvA EvU)
theorem okSh_rows {s : Sh} (h : okSh s) : (rowsS s).length ≤ 4 ∧ ∀ r ∈ rowsS s, isW r.1 ∧ okFl r.2.2 := by
  obtain ⟨h2, _, hz⟩ := h
  refine ⟨?_, fun r hr => ?_⟩
  · have key : ∀ l : Sh, (∀ p ∈ l, p.2.2.length ≤ 1) → (rowsS l).length ≤ 2 * l.length := by
      intro l
      induction l with
      | nil => intro _; exact Nat.le_refl _
      | cons p l ih =>
        intro hl
        have i1 := ih fun q hq => hl q (List.mem_cons_of_mem _ hq)
        have i2 := hl p List.mem_cons_self
        show (rowsOf p ++ rowsS l).length ≤ 2 * (l.length + 1)
        rw [List.length_append]
        have : (rowsOf p).length = p.2.2.length + 1 := by simp [rowsOf]
        omega
    have := key s fun p hp => (hz p hp).2.2.1
    omega
  · obtain ⟨p, hp, hr⟩ := List.mem_flatMap.mp hr
    obtain ⟨w1, f1, _, hq⟩ := hz p hp
    rcases List.mem_cons.mp hr with rfl | hr
    · exact ⟨w1, f1⟩
    · obtain ⟨q, hq1, rfl⟩ := List.mem_map.mp hr
      exact hq q hq1
/-- the three parts of a row go to their slots -/
theorem row_unp {H H' : Hp} {K : PySem.W.Frag} {n : Nat} {S : Addr → Prop} {r : Ro} {x : V} {i j k : Nat} (h : RowAt H H' n S r x) :
    ∃ fv, Rep H n S (flD r.2.2) fv ∧ ∀ {vs : List Nat} {σ : L2.St} (H2 : Hp), Ex H' H2 → (∀ y1 y2 y3, wipe ((((wipe σ vs).set i y1).set j y2).set k y3) vs = wipe σ vs) → Unp (gTup K 3 (gCons (gName i) (gCons (gName j) (gCons (gName k) gNil)))) vs σ ((((wipe σ vs).set i (some (.str r.1))).set j (some (oV r.2.1))).set k (some fv)) x H2 := by
  obtain ⟨a, fv, rfl, ha, hr⟩ := h
  exact ⟨fv, hr, fun H2 e2 hw => ⟨hw _ _ _, fun Kont q => ⟨a, _, rfl, Evl.st_of (e2 _ _ ha), rfl, _, _, rfl, _, _, rfl, _, _, rfl, rfl, q⟩⟩⟩
section
variable {P : Program} {w : World} {K : PySem.W.Frag} {mg : Str → Option Value} {base : Heap} {C_Shape : Addr}
def preWrong : List V → Hp → Prop := fun vs H => ∃ (a : Addr) (fl : List Str) (v : V) (n : Nat) (S : Addr → Prop) (d : D) (s : Sh), vs = [.ref a, v] ∧ H a = some (.lst (fl.map V.str)) ∧ fl.length ≤ 2 ∧ (∀ x ∈ fl, isW x) ∧ fl.Nodup ∧ Rep H n S d v ∧ shD d s ∧ okSh s
theorem ok_wrong_part (T : Txt K mg C_Shape) (R : Prg K mg C_Shape) : ∃ f fd, Fn P w K mg base "wrong_part" 5 ["flags", "lists"] (spV .non preWrong) f fd := by
  obtain ⟨_, _, G_are_words⟩ := ok_are_wordsL (P := P) (w := w) (base := base) T R
  obtain ⟨_, _, G_are_lists⟩ := ok_are_lists (P := P) (w := w) (base := base) T R
  obtain ⟨_, _, G_are_fields⟩ := ok_are_fields (P := P) (w := w) (base := base) T R
  obtain ⟨_, _, G_list_rows⟩ := ok_list_rows (P := P) (w := w) (base := base) T R
  obtain ⟨f, fd, at_, F, kp⟩ := R.wrong_part
  refine ⟨f, fd, F.ok sc_wrong_part (fun vs H Q E h => ?_) (fun cdv A outer s H vs Q E hr h => ?_), at_, kp, F.binds (fun _ _ _ _ _ _ us hl => match us, hl with | [_, _], _ => rfl)⟩
  · obtain ⟨⟨a, fl, v, n, S, d, s, rfl, _⟩, _⟩ := h; rfl
  · obtain ⟨⟨a, fl, v, n, S, d, z, rfl, ha, f2, fw, fn, hv, hd, hz⟩, k⟩ := h
    obtain ⟨r4, rok⟩ := okSh_rows hz
    refine ⟨_, (pss_cons (ps_if (PW.pt (pw_or (pt_not (pt_val (pe_callB (r := rIsiT K) call_isiT (by rfl) T.isinstance (by decide +kernel) (pa_cons (pv 0) (pa_cons (pe_tup (pa_cons (pe_bltn (v := .ty "list") (by rfl) T.list boot_list rfl) (pa_cons (pe_bltn (v := .ty "tuple") (by rfl) T.tuple boot_tuple rfl) pa_nil))) pa_nil))))) (pw_or1 (pt_not (pt_val (pcl G_are_words hr (pa_cons (pv 0) (pa_cons pe_int (pa_cons pe_int pa_nil))))))))) pss_never pss_nil)
  (pss_cons (ps_if (pt_not (pt_val (pcl G_are_lists hr (pa_cons (pv 1) pa_nil)))) pss_never pss_nil)
  (pss_cons (ps_set (i := 2) sc_wrong_part.nd rfl (Or.inl rfl) (pcl G_list_rows hr (pa_cons (pv 1) pa_nil)))
  (pss_cons (ps_if (pt_not (pt_val (pe_callB (r := rAll K) (cr_all rfl) (by rfl) T.all (by decide +kernel) (pa_cons (pe_lc (own := [("name", 3), ("parent", 4), ("fields", 5)]) rfl sc_wrong_part.nd (show PI _ _ _ (iList K _) from pi_list (pv 2)) (blkOk_by (own := [("name", 3), ("parent", 4), ("fields", 5)]) (N := ["flags", "lists", "rows", "name", "parent", "fields"]) (sc := defScope s_wrong_part) (by decide +kernel)) (fun _ _ _ _ _ => (show PG _ _ (gTup K 3 _) from pg_tup (n := 3) rfl (pgs_cons (pg_name (i := 3) sc_wrong_part.nd rfl (Or.inl rfl)) (pgs_cons (pg_name (i := 4) sc_wrong_part.nd rfl (Or.inl rfl)) (pgs_cons (pg_name (i := 5) sc_wrong_part.nd rfl (Or.inl rfl)) pgs_nil))))) (fun _ _ _ _ _ => pts_nil) (fun _ _ _ _ _ => (pcl G_are_fields hr (pa_cons (pv 5) pa_nil)))) pa_nil)))) pss_never pss_nil)
  (pss_cons (ps_if (pt_cmpR op_lt (pe_callB call_lenTxs (by rfl) T.len (by decide +kernel) (pa_cons (pe_scT (own := [("name", 3), ("parent", 4), ("fields", 5)]) rfl sc_wrong_part.nd (show PI _ _ _ (iList K _) from pi_list (pv 2)) (blkOk_by (own := [("name", 3), ("parent", 4), ("fields", 5)]) (N := ["flags", "lists", "rows", "name", "parent", "fields"]) (sc := defScope s_wrong_part) (by decide +kernel)) (fun _ _ _ _ _ => (show PG _ _ (gTup K 3 _) from pg_tup (n := 3) rfl (pgs_cons (pg_name (i := 3) sc_wrong_part.nd rfl (Or.inl rfl)) (pgs_cons (pg_name (i := 4) sc_wrong_part.nd rfl (Or.inl rfl)) (pgs_cons (pg_name (i := 5) sc_wrong_part.nd rfl (Or.inl rfl)) pgs_nil))))) (fun _ _ _ _ _ => pts_nil) (fun _ _ _ _ _ => (pv 3))) pa_nil)) (pe_callB (r := rLenA K) call_len (by rfl) T.len (by decide +kernel) (pa_cons (pv 2) pa_nil)) (nomark _)) pss_never pss_nil)
  (pss_one (ps_ret pe_non))))))), ?_⟩
    refine Evl.q_when (b := false) (Evl.et_or (a := false) (b := false) (Evl.et_not (a := true) (Evl.et_B (ev_isi2 (Evl.ev_var rfl) (fun H1 e1 => .base (.lst (e1 _ _ ha))) (kitAny_cons (b := true) (kit_ty (by decide +kernel)) (fun h => nomatch h) fun _ => rfl)))) fun _ => Evl.et_not (a := true) (Evl.et_B (spV_ev (Evl.ea_cons (Evl.ev_var rfl) (Evl.ea_cons Evl.ev_c (Evl.ea_cons Evl.ev_c Evl.ea_nil))) fun H1 e1 => ⟨a, fl, 0, 2, rfl, Evl.sq_of (e1 _ _ ha), by omega, by omega, by omega, fw, fn⟩))) (fun h => nomatch h) fun _ H1 e1 => ?_
    refine Evl.q_when (b := false) (Evl.et_not (a := true) (Evl.et_B (spV_ev (Evl.ea_cons (Evl.ev_var rfl) Evl.ea_nil) fun H2 e2 => ⟨v, n, S, d, z, rfl, rep_ex (e1.trans e2) hv, hd, hz⟩))) (fun h => nomatch h) fun _ H2 e2 => ?_
    refine ⟨_, rfl, v, n, S, d, z, rfl, rep_ex (e1.trans e2) hv, hd, hz, fun H3 p xs e3 np hp hrows => ?_⟩
    have lx := pair_len hrows
    have row : ∀ (i : Nat) (x : V), xs[i]? = some x → ∃ r, (rowsS z)[i]? = some r ∧ RowAt H2 H3 n S r x := fun i x hx => pair_back hrows hx
    refine Evl.q_when (b := false) (Evl.et_not (a := true) (Evl.et_B (ev_allT (n := xs.length) (el_lcG (Evl.ev_var rfl) (Evl.sq_of hp) (by omega) fun i x hx H4 e4 => ?_)))) (fun h => nomatch h) fun _ H4 e4 => ?_
    · obtain ⟨r, hr1, hr2⟩ := row i x hx
      obtain ⟨fv, hf, hu⟩ := row_unp (K := K) hr2 (i := 3) (j := 4) (k := 5)
      exact ⟨_, hu H4 e4 (by intro _ _ _; rfl), fun H5 e5 => spV_ev (Evl.ea_cons (Evl.ev_var rfl) Evl.ea_nil) fun H6 e6 => ⟨fv, n, S, r.2.2, rfl, rep_ex (e3.trans (e5.trans e6)) hf, (rok r (List.mem_of_getElem? hr1)).2⟩⟩
    · refine Evl.q_when (b := false) (Evl.et_test (Evl.ev_is (Evl.ev_op (ex_scG (nms := (rowsS z).map (·.1)) (Evl.ev_var rfl) (Evl.sq_of (e4 _ _ hp)) (by rw [List.length_map]; exact lx) (by omega) fun i x hx => ?_) (ev_lenL (Evl.ev_var rfl) (.inl (Evl.sq_of (e4 _ _ hp)))) Evl.rv_I0) ?_)) (fun h => nomatch h) fun _ H5 e5 => Evl.s_ret Evl.ev_c fun H6 e6 => k H6 (e1.trans (e2.trans (e3.trans (e4.trans (e5.trans e6)))))
      · obtain ⟨r, hr1, hr2⟩ := row i x hx
        refine ⟨r.1, by rw [List.getElem?_map, hr1]; rfl, fun H5 e5 => ?_⟩
        obtain ⟨fv, hf, hu⟩ := row_unp (K := K) hr2 (i := 3) (j := 4) (k := 5)
        exact ⟨_, hu H5 (e4.trans e5) (by intro _ _ _; rfl), fun H6 e6 => Evl.ev_var rfl⟩
      · rw [met_nodup _ [] hz.2.1, List.nil_append, List.length_map, lx]
        simp
end
end Pk

namespace Pk
open PySem PySem.Spec PyProof.Rows L2 Ssb
open Evl (Ex Ev EvT EvL EvA EvU)
/-! ### a Shape as it stands -/
def oD : Option Str → D
  | none => .non
  | some x => .str x
def tabD (s : Sh) : D := .dic ((rowsS s).map fun r => (r.1, .tup [oD r.2.1, flD r.2.2]))
def shF (ft tb : Addr) : List (Str × V) := putF "table" (.ref tb) (putF "flags" (.ref ft) [])
theorem ne_tf : ¬ (("table" : Str) = "flags") := by decide +kernel
theorem ne_ft : ¬ (("flags" : Str) = "table") := by decide +kernel
theorem shF_flags (ft tb : Addr) : (shF ft tb).lookup ("flags" : Str) = some (.ref ft) := by
  unfold shF; rw [lookup_putF, if_neg ne_ft, lookup_putF, if_pos rfl]
theorem shF_table (ft tb : Addr) : (shF ft tb).lookup ("table" : Str) = some (.ref tb) := by
  unfold shF; rw [lookup_putF, if_pos rfl]
theorem shF_no (ft tb : Addr) {m : Str} (h1 : ¬ m = "flags") (h2 : ¬ m = "table") : (shF ft tb).lookup m = none := by
  unfold shF; rw [lookup_putF, if_neg h2, lookup_putF, if_neg h1]; rfl
/-- at p: the Shape with these flags (ascending) and these lists -/
def ShapeAt (C : Addr) (H : Hp) (p : Addr) (fl : List Str) (s : Sh) (S : Addr → Prop) : Prop := ∃ dx ft tb, H p = some (.ins C dx (shF ft tb)) ∧ H ft = some (.tup (fl.map V.str)) ∧ Rep H 5 S (tabD s) (.ref tb)
theorem ShapeAt.ex {C : Addr} {H H' : Hp} {p : Addr} {fl : List Str} {s : Sh} {S : Addr → Prop} (e : Ex H H') (h : ShapeAt C H p fl s S) : ShapeAt C H' p fl s S := by
  obtain ⟨dx, ft, tb, h1, h2, h3⟩ := h; exact ⟨dx, ft, tb, e _ _ h1, e _ _ h2, rep_ex e h3⟩
/-- fields in a new dict with the same entries -/
theorem fl_new {H : Hp} {n : Nat} {S : Addr → Prop} {f : Fl} {v : V} (h : Rep H n S (flD f) v) : ∃ a es, v = .ref a ∧ H a = some (.dK es) ∧ f.length ≤ 100000 ∧
    ∀ {H' : Hp} {S' : Addr → Prop} {b : Addr}, (∀ a xs, H a = some (.tup xs) → H' a = some (.tup xs)) → S' b → H' b = some (.dK es) → Rep H' 3 S' (flD f) (.ref b) := by
  cases n with
  | zero => exact h.elim
  | succ n =>
  obtain ⟨a, es, e, _, ha, hl, pr⟩ := h
  refine ⟨a, es, e, ha, by simpa using hl, fun {H' S' b} k sb hb => ⟨b, es, rfl, sb, hb, hl, ?_⟩⟩
  have key : ∀ (f : Fl) (es : List (Key × V)), Paired (fun (q : Str × D) (e : Key × V) => e.1 = Sum.inr q.1 ∧ Rep H n (fun b => S b ∧ b ≠ a) q.2 e.2) (f.map fun p => (p.1, D.tup (p.2.map .str))) es →
      Paired (fun (q : Str × D) (e : Key × V) => e.1 = Sum.inr q.1 ∧ Rep H' 2 (fun c => S' c ∧ c ≠ b) q.2 e.2) (f.map fun p => (p.1, D.tup (p.2.map .str))) es := by
    intro f
    induction f with
    | nil => intro es pr; cases pr; exact .nil
    | cons p f ih =>
      intro es pr
      cases pr with
      | cons h t =>
        refine .cons ⟨h.1, ?_⟩ (ih _ t)
        have h2 := h.2
        cases n with
        | zero => exact h2.elim
        | succ n =>
        obtain ⟨c, xs, e1, hc, hl1, p1⟩ := h2
        have ex := rep_strs p1
        subst ex
        refine ⟨c, _, e1, k c _ hc, hl1, ?_⟩
        have allS : ∀ ws : List Str, Paired (fun d x => Rep H' 1 (fun c => S' c ∧ c ≠ b) d x) (ws.map D.str) (ws.map V.str) := by
          intro ws
          induction ws with
          | nil => exact .nil
          | cons y ws ih => exact .cons rfl ih
        exact allS p.2
  exact key f es pr
theorem row_fresh {l : List Ro} {i : Nat} {r : Ro} {d0 : D} (hn : (l.map (·.1)).Nodup) (hr : l[i]? = some r) (hl : List.lookup r.1 ((l.map fun r => (r.1, D.tup [oD r.2.1, flD r.2.2])).take i) = some d0) : False := by
  have mem : ∀ {m : List (Str × D)} {k : Str} {d : D}, m.lookup k = some d → k ∈ m.map (·.1) := by
    intro m
    induction m with
    | nil => intro k d h; cases h
    | cons q m ih =>
      intro k d h
      obtain ⟨j, e⟩ := q
      rw [lk_cons] at h
      by_cases c : k = j
      · rw [c]; exact List.mem_cons_self
      · rw [if_neg c] at h
        exact List.mem_cons_of_mem _ (ih h)
  have h1 := mem hl
  rw [← List.map_take, List.map_map] at h1
  obtain ⟨r2, hr2, e2⟩ := List.mem_map.mp h1
  obtain ⟨j, hj, ej⟩ := List.mem_iff_getElem.mp hr2
  rw [List.length_take] at hj
  have hj2 : l[j]? = some r2 := by
    rw [← ej, List.getElem_take, List.getElem?_eq_getElem (by omega)]
  have a1 : (l.map (·.1))[j]? = some r.1 := by
    rw [List.getElem?_map, hj2]; exact congrArg some e2
  have a2 : (l.map (·.1))[i]? = some r.1 := by
    rw [List.getElem?_map, hr]; rfl
  have := nodup_ix hn a1 a2
  omega
section
variable {P : Program} {w : World} {K : PySem.W.Frag} {mg : Str → Option Value} {base : Heap} {C_Shape : Addr}
/-- Shape(flags, lists), flags a list -/
def spInit (C : Addr) : Sp := fun vs H Q _ => ∃ (p dx a : Addr) (fl : List Str) (v : V) (n : Nat) (S : Addr → Prop) (d : D) (s : Sh), vs = [.ref p, .ref a, v] ∧ H p = some (.ins C dx []) ∧ H a = some (.lst (fl.map V.str)) ∧ fl.length ≤ 2 ∧ (∀ x ∈ fl, isW x) ∧ fl.Nodup ∧ Rep H n S d v ∧ shD d s ∧ okSh s ∧ ¬ S p ∧
  ∀ H' fl', (∀ b o, b ≠ p → H b = some o → H' b = some o) → fl'.Perm fl → sortedS fl' = true → ShapeAt C H' p fl' s (fun b => H b = none) → Q .non H'
theorem ok_Shape_init (T : Txt K mg C_Shape) (R : Prg K mg C_Shape) : ∃ f fd, Mt P w K mg base C_Shape "__init__" 6 ["self", "flags", "lists"] (spInit C_Shape) f fd := by
  obtain ⟨_, _, G_wrong_part⟩ := ok_wrong_part (P := P) (w := w) (base := base) T R
  obtain ⟨_, _, G_list_rows⟩ := ok_list_rows (P := P) (w := w) (base := base) T R
  obtain ⟨f, fd, F, fi, isf, kp⟩ := R.Shape_init
  refine ⟨f, fd, F.ok sc_Shape_init (fun vs H Q E h => ?_) (fun cdv A outer s H vs Q E hr h => ?_), ⟨fi, isf, kp⟩, F.binds (fun _ _ _ _ _ _ us hl => match us, hl with | [_, _, _], _ => rfl)⟩
  · obtain ⟨p, dx, a, fl, v, n, S, d, s, rfl, _⟩ := h; rfl
  · obtain ⟨p, dx, a, fl, v, n, S, d, z, rfl, hp, ha, f2, fw, fn, hv, hd, hz, nSp, k⟩ := h
    obtain ⟨r4, rok⟩ := okSh_rows hz
    refine ⟨_, (pss_cons (ps_set (i := 3) sc_Shape_init.nd rfl (Or.inl rfl) (pcl G_wrong_part hr (pa_cons (pv 1) (pa_cons (pv 2) pa_nil))))
  (pss_cons (ps_if (pt_cmpR op_notN (pv 3) pe_non (nomark _)) pss_never pss_nil)
  (pss_cons (ps_fld (pv 0) (pe_callTy (r := rTupA K) call_tuple_of (by rfl) T.tuple (by decide +kernel) (pa_cons (pe_callB (r := rSortedS K) cr_sortedS (by rfl) T.sorted (by decide +kernel) (pa_cons (pe_callTy (r := rListA K) call_list_of (by rfl) T.list (by decide +kernel) (pa_cons (pv 1) pa_nil)) pa_nil)) pa_nil)) rfl)
  (pss_one (ps_fld (pv 0) (pe_dc (own := [("name", 4), ("parent", 5), ("fields", 6)]) rfl sc_Shape_init.nd (show PI _ _ _ (iList K _) from pi_list (pcl G_list_rows hr (pa_cons (pv 2) pa_nil))) (blkOk_by (own := [("name", 4), ("parent", 5), ("fields", 6)]) (N := ["self", "flags", "lists", "part", "name", "parent", "fields"]) (sc := defScope s_Shape_init) (by decide +kernel)) (fun _ _ _ _ _ => (show PG _ _ (gTup K 3 _) from pg_tup (n := 3) rfl (pgs_cons (pg_name (i := 4) sc_Shape_init.nd rfl (Or.inl rfl)) (pgs_cons (pg_name (i := 5) sc_Shape_init.nd rfl (Or.inl rfl)) (pgs_cons (pg_name (i := 6) sc_Shape_init.nd rfl (Or.inl rfl)) pgs_nil))))) (fun _ _ _ _ _ => pts_nil) (fun _ _ _ _ _ => (pv 4)) (fun _ _ _ _ _ => (pe_tup (pa_cons (pv 5) (pa_cons (pe_callTy call_dictD (by rfl) T.dict (by decide +kernel) (pa_cons (pv 6) pa_nil)) pa_nil))))) rfl))))), ?_⟩
    -- part = wrong_part(flags, lists)
    refine ⟨_, rfl, _, rfl, ⟨a, fl, v, n, S, d, z, rfl, ha, f2, fw, fn, hv, hd, hz⟩, fun H1 e1 => ?_⟩
    refine Evl.q_when (b := false) (Evl.et_is (Evl.et_test (Evl.ev_op (Evl.ev_var rfl) Evl.ev_c rv_notN)) rfl) (fun h => nomatch h) fun _ H2 e2 => ?_
    have e12 := e1.trans e2
    -- self.flags = tuple(sorted(list(flags)))
    refine ⟨_, rfl, a, fl.map V.str, rfl, .inl (Evl.sq_of (e12 _ _ ha)), fun q hq => ?_⟩
    refine ⟨q, fl, rfl, Evl.sq_of upd_same, by omega, fun ys q2 perm so hq2 => ?_⟩
    refine ⟨q2, ys.map V.str, rfl, .inl ⟨Evl.sq_of upd_same, fun ft hft => ?_⟩⟩
    have e3 : Ex H2 (upd (upd (upd H2 q (.lst (fl.map V.str))) q2 (.lst (ys.map V.str))) ft (.tup (ys.map V.str))) := (Ex.new hq).trans ((Ex.new hq2).trans (Ex.new hft))
    have e03 := e12.trans e3
    have hft0 : (upd (upd (upd H2 q (.lst (fl.map V.str))) q2 (.lst (ys.map V.str))) ft (.tup (ys.map V.str))) ft = some (.tup (ys.map V.str)) := upd_same
    generalize (upd (upd (upd H2 q (.lst (fl.map V.str))) q2 (.lst (ys.map V.str))) ft (.tup (ys.map V.str))) = H3 at e3 e03 hft0 ⊢
    refine ⟨_, rfl, p, C_Shape, dx, [], rfl, e03 _ _ hp, T.cl_Shape, T.no_Shape_flags, (by show 0 < 1000; decide), ?_⟩
    have npft : ft ≠ p := fun e => by
      have := e03 _ _ hp
      rw [← e, hft0] at this; cases this
    -- the heap with the flags
    have e4 : ∀ b o, b ≠ p → H b = some o → (upd H3 p (.ins C_Shape dx (putF "flags" (.ref ft) []))) b = some o := fun b o nb hb => by rw [upd_ne nb]; exact e03 _ _ hb
    have hv4 : Rep (upd H3 p (.ins C_Shape dx (putF "flags" (.ref ft) []))) n S d v := rep_to (fun b o hb hs => e4 b o (fun e => by
      rcases hs with hs | ⟨xs, rfl⟩
      · rw [e] at hs; exact nSp hs
      · rw [e, hp] at hb; cases hb) hb) hv
    have hp4 : (upd H3 p (.ins C_Shape dx (putF "flags" (.ref ft) []))) p = some (.ins C_Shape dx (putF "flags" (.ref ft) [])) := upd_same
    have hft4 : (upd H3 p (.ins C_Shape dx (putF "flags" (.ref ft) []))) ft = some (.tup (ys.map V.str)) := by rw [upd_ne npft]; exact hft0
    have old4 : ∀ b, (upd H3 p (.ins C_Shape dx (putF "flags" (.ref ft) []))) b = none → H b = none := fun b hb => by
      cases e : H b with
      | none => rfl
      | some o =>
        have nb : b ≠ p := fun z => by rw [z, upd_same] at hb; cases hb
        rw [e4 b o nb e] at hb; cases hb
    generalize (upd H3 p (.ins C_Shape dx (putF "flags" (.ref ft) []))) = H4 at e4 hv4 hp4 hft4 old4 ⊢
    -- self.table = {..}
    refine ⟨_, rfl, v, n, S, d, z, rfl, hv4, hd, hz, fun H5 rp xs e5 nrp hrp hrows => ?_⟩
    have lx := pair_len hrows
    refine ⟨rp, rfl, ⟨xs, Evl.sq_of hrp⟩, fun Dl hD => ?_⟩
    refine ⟨fun i m H' => m = xs.length - i ∧ i ≤ xs.length ∧ Ex H5 H' ∧ ∃ es, H' Dl = some (.dK es) ∧ Paired (fun (q : Str × D) (e : Key × V) => e.1 = Sum.inr q.1 ∧ Rep H' 4 (fun b => H5 b = none ∧ b ≠ Dl) q.2 e.2) ((((rowsS z).map fun r => (r.1, D.tup [oD r.2.1, flD r.2.2]))).take i) es, ⟨xs.length, by simp, Nat.zero_le _, Ex.new hD, [], upd_same, .nil⟩, ?_⟩
    rintro i m H' ⟨rfl, hi, e6, es, hes, pes⟩
    have sq : SqL K H' rp xs := Evl.sq_of (e6 _ _ hrp)
    by_cases hlt : i < xs.length
    · refine .inr ⟨⟨xs, xs[i], sq, by simp [hlt]⟩, fun H' => Ex H5 H' ∧ ∃ es, H' Dl = some (.dK es) ∧ Paired (fun (q : Str × D) (e : Key × V) => e.1 = Sum.inr q.1 ∧ Rep H' 4 (fun b => H5 b = none ∧ b ≠ Dl) q.2 e.2) ((((rowsS z).map fun r => (r.1, D.tup [oD r.2.1, flD r.2.2]))).take (i + 1)) es, fun H' p' => ⟨xs.length - (i + 1), by omega, rfl, hlt, p'⟩, fun x H'' y => ?_⟩
      obtain ⟨rfl, y⟩ := y
      obtain ⟨r, hr1, ra, fv, rfl, hra, hfv⟩ := pair_back hrows (y xs sq)
      obtain ⟨fa, fes, rfl, hfa, fl5, mk⟩ := fl_new (rep_ex (e5.trans e6) hfv)
      refine ⟨ra, _, rfl, Evl.st_of (e6 _ _ hra), rfl, _, _, rfl, _, _, rfl, _, _, rfl, rfl, rfl, ?_⟩
      refine yes_go ?_
      refine ⟨_, rfl, _, rfl, _, rfl, fa, fes, rfl, .inl hfa, fun fb hfb => ⟨(by show 2 ≤ sizeLine; decide), fun tp htp => ?_⟩⟩
      have e7 : Ex H'' (upd (upd H'' fb (.dK fes)) tp (.tup [oV r.2.1, .ref fb])) := (Ex.new hfb).trans (Ex.new htp)
      have nfD : fb ≠ Dl := fun e => by rw [e, hes] at hfb; cases hfb
      have nft : fb ≠ tp := fun e => by rw [← e, upd_same] at htp; cases htp
      have nDt : Dl ≠ tp := fun e => by rw [← e, upd_ne (Ne.symm nfD), hes] at htp; cases htp
      have ntab : valV es (Sum.inr r.1 : Key) = none := by
        refine pair_no (F := fun d v => Rep H'' 4 (fun b => H5 b = none ∧ b ≠ Dl) d v) pes ?_
        cases hl : List.lookup r.1 ((((rowsS z).map fun r => (r.1, D.tup [oD r.2.1, flD r.2.2]))).take i) with
        | none => rfl
        | some d0 => exact (row_fresh hz.2.1 hr1 hl).elim
      have hes2 : (upd (upd H'' fb (.dK fes)) tp (.tup [oV r.2.1, .ref fb])) Dl = some (.dK es) := by rw [upd_ne nDt, upd_ne (Ne.symm nfD)]; exact hes
      have les : es.length ≤ 4 := by
        rw [← pair_len pes, List.length_take, List.length_map]; omega
      refine ⟨es, Sum.inr r.1, rfl, hes2, Evl.sz_lt (by omega), Ex.mut (e6.trans e7) hD, es ++ [(Sum.inr r.1, .ref tp)], by rw [upd_same, putK_new _ ntab], ?_⟩
      have ej : ((((rowsS z).map fun r => (r.1, D.tup [oD r.2.1, flD r.2.2]))).take (i + 1)) = ((((rowsS z).map fun r => (r.1, D.tup [oD r.2.1, flD r.2.2]))).take i) ++ [(r.1, D.tup [oD r.2.1, flD r.2.2])] := by
        rw [List.take_add_one, List.getElem?_map, hr1]; rfl
      rw [ej]
      have keep : ∀ b o, (upd (upd H'' fb (.dK fes)) tp (.tup [oV r.2.1, .ref fb])) b = some o → ((H5 b = none ∧ b ≠ Dl) ∨ ∃ xs, o = .tup xs) → (upd (upd (upd H'' fb (.dK fes)) tp (.tup [oV r.2.1, .ref fb])) Dl (.dK (putK es (Sum.inr r.1) (.ref tp)))) b = some o := fun b o hb hs => by
        have nb : b ≠ Dl := by
          rcases hs with hs | ⟨xs, rfl⟩
          · exact hs.2
          · intro e; rw [e, hes2] at hb; cases hb
        rw [upd_ne nb]; exact hb
      refine pair_snoc (pair_imp pes fun a b h => ⟨h.1, rep_to keep (rep_ex e7 h.2)⟩) ⟨rfl, rep_to keep ?_⟩
      refine ⟨tp, [oV r.2.1, .ref fb], rfl, upd_same, (by show 2 ≤ 100000; decide), .cons ?_ (.cons (mk (b := fb) (fun a xs ha => e7 _ _ ha) ⟨?_, nfD⟩ ?_) .nil)⟩
      · cases r.2.1 with
        | none => rfl
        | some x => rfl
      · cases e : H5 fb with
        | none => rfl
        | some o => rw [e6 _ _ e] at hfb; cases hfb
      · rw [upd_ne nft, upd_same]
    · have ei : i = xs.length := by omega
      subst ei
      refine .inl ⟨⟨xs, sq, Nat.le_refl _⟩, _, rfl, p, C_Shape, dx, _, rfl, e6 _ _ (e5 _ _ hp4), T.cl_Shape, T.no_Shape_table, (by show 1 < 1000; decide), ?_⟩
      have np5 : H5 p ≠ none := by rw [e5 _ _ hp4]; exact fun h => nomatch h
      have neDp : Dl ≠ p := fun e => by rw [e, e5 _ _ hp4] at hD; cases hD
      have keep : ∀ b o, H' b = some o → (b ≠ p) → (upd H' p (.ins C_Shape dx (putF "table" (.ref Dl) (putF "flags" (.ref ft) [])))) b = some o := fun b o hb nb => by rw [upd_ne nb]; exact hb
      refine k _ ys (fun b o nb hb => keep b o (e6 _ _ (e5 _ _ (e4 b o nb hb))) nb) perm so ⟨dx, ft, Dl, upd_same, keep _ _ (e6 _ _ (e5 _ _ hft4)) npft, ?_⟩
      refine rep_S (S := fun b => H5 b = none) (fun b hb => old4 b (Evl.fresh_back e5 hb)) ?_
      refine rep_to (H := H') (fun b o hb hs => keep b o hb fun e => ?_) ⟨Dl, es, rfl, hD, hes, ?_, ?_⟩
      · rcases hs with hs | ⟨xs, rfl⟩
        · rw [e] at hs; exact np5 hs
        · have := e6 _ _ (e5 _ _ hp4)
          rw [e, this] at hb; cases hb
      · rw [List.length_map]; omega
      · have ez : ((((rowsS z).map fun r => (r.1, D.tup [oD r.2.1, flD r.2.2]))).take xs.length) = ((rowsS z).map fun r => (r.1, D.tup [oD r.2.1, flD r.2.2])) := List.take_of_length_le (by rw [List.length_map]; omega)
        rw [ez] at pes
        exact pes
end
end Pk

namespace Pk
open PySem PySem.Spec PyProof.Rows L2 Ssb
open Evl (Ex Ev EvT EvL EvA EvU)
theorem valV_at : ∀ {es : List (Key × V)} {i : Nat} {k : Key} {v : V}, (es.map (·.1)).Nodup → es[i]? = some (k, v) → valV es k = some v
  | [], i, k, v, _, h => by simp at h
  | e :: es, 0, k, v, _, h => by
    simp at h; subst h
    rw [vV_cons, if_pos rfl]
  | e :: es, i + 1, k, v, nd, h => by
    have h2 : es[i]? = some (k, v) := by simpa using h
    rw [List.map_cons, List.nodup_cons] at nd
    rw [vV_cons, if_neg, valV_at nd.2 h2]
    intro z
    refine nd.1 ?_
    rw [z]
    exact List.mem_map.mpr ⟨(k, v), List.mem_of_getElem? h2, rfl⟩
theorem oV_inj {a b : Option Str} : decide (oV a = oV b) = decide (a = b) := by
  cases a <;> cases b <;> simp [oV]
theorem oV_scal (a b : Option Str) : scal (oV a) (oV b) = true := by cases a <;> cases b <;> rfl
/-- what the table tells -/
theorem tab_get {H : Hp} {S : Addr → Prop} {s : Sh} {tb : Addr} (hn : ((rowsS s).map (·.1)).Nodup) (h : Rep H 5 S (tabD s) (.ref tb)) : ∃ es, H tb = some (.dK es) ∧ es.length = (rowsS s).length ∧ (∀ (i : Nat) (k : Key) (v : V), es[i]? = some (k, v) → ∃ r, (rowsS s)[i]? = some r ∧ k = Sum.inr r.1 ∧ valV es k = some v) ∧
    ∀ r ∈ rowsS s, ∃ tp fv, valV es (Sum.inr r.1 : Key) = some (.ref tp) ∧ H tp = some (.tup [oV r.2.1, fv]) ∧ Rep H 3 S (flD r.2.2) fv := by
  obtain ⟨_, es, e, _, hes, _, pr⟩ := h
  cases e
  have le : es.length = (rowsS s).length := by rw [← pair_len pr, List.length_map]
  have keys : es.map (·.1) = (rowsS s).map fun r => (Sum.inr r.1 : Key) := by
    refine List.ext_getElem? fun i => ?_
    rw [List.getElem?_map, List.getElem?_map]
    cases hi : es[i]? with
    | none =>
      have : (rowsS s)[i]? = none := List.getElem?_eq_none_iff.mpr (by rw [← le]; exact List.getElem?_eq_none_iff.mp hi)
      rw [this]; rfl
    | some e =>
      obtain ⟨q, hq, h1, _⟩ := pair_back pr hi
      rw [List.getElem?_map] at hq
      cases hr : (rowsS s)[i]? with
      | none => rw [hr] at hq; cases hq
      | some r =>
        rw [hr] at hq; cases hq
        exact congrArg some h1
  have nd : (es.map (·.1)).Nodup := by
    rw [keys]
    have e2 : ((rowsS s).map fun r => (Sum.inr r.1 : Key)) = ((rowsS s).map (·.1)).map Sum.inr := by rw [List.map_map]; rfl
    rw [e2]
    exact List.Pairwise.map _ (fun a b h z => h (Sum.inr.inj z)) hn
  have at_ : ∀ (i : Nat) (r : Ro), (rowsS s)[i]? = some r → ∃ v, es[i]? = some (Sum.inr r.1, v) ∧ Rep H 4 (fun b => S b ∧ b ≠ tb) (.tup [oD r.2.1, flD r.2.2]) v := fun i r hr => by
    obtain ⟨e, he, h1, h2⟩ := pair_at pr (i := i) (a := (r.1, .tup [oD r.2.1, flD r.2.2])) (by rw [List.getElem?_map, hr]; rfl)
    obtain ⟨k, v⟩ := e
    have h1 : k = Sum.inr r.1 := h1
    exact ⟨v, by rw [he, h1], h2⟩
  refine ⟨es, hes, le, fun i k v hi => ?_, fun r hr => ?_⟩
  · obtain ⟨q, hq, h1, _⟩ := pair_back pr hi
    rw [List.getElem?_map] at hq
    cases hr : (rowsS s)[i]? with
    | none => rw [hr] at hq; cases hq
    | some r =>
      rw [hr] at hq; cases hq
      exact ⟨r, rfl, h1, valV_at nd hi⟩
  · obtain ⟨i, hi, ei⟩ := List.mem_iff_getElem.mp hr
    obtain ⟨v, hv, tp, xs, rfl, htp, _, pp⟩ := at_ i r (by rw [← ei]; exact List.getElem?_eq_getElem hi)
    have two : ∃ x1 x2, xs = [x1, x2] ∧ Rep H 3 (fun b => S b ∧ b ≠ tb) (oD r.2.1) x1 ∧ Rep H 3 (fun b => S b ∧ b ≠ tb) (flD r.2.2) x2 := by
      cases pp with
      | cons h1 t =>
        cases t with
        | cons h2 t2 =>
          cases t2
          exact ⟨_, _, rfl, h1, h2⟩
    obtain ⟨x1, x2, rfl, h1, h2⟩ := two
    have e1 : x1 = oV r.2.1 := by
      cases hc : r.2.1 with
      | none => rw [hc] at h1; exact h1
      | some x => rw [hc] at h1; exact h1
    subst e1
    exact ⟨tp, _, valV_at nd hv, htp, rep_S (fun b hb => hb.1) h2⟩
/-- the names of the lists with this parent -/
def kids (s : Sh) (par : Option Str) : List Str := ((rowsS s).filter fun r => decide (r.2.1 = par)).map (·.1)
theorem kids_len {s : Sh} (par : Option Str) : (kids s par).length ≤ (rowsS s).length := by
  unfold kids; rw [List.length_map]; exact List.length_filter_le _ _
section
variable {P : Program} {w : World} {K : PySem.W.Frag} {mg : Str → Option Value} {base : Heap} {C_Shape : Addr}
def spNeed (C : Addr) : Sp := fun vs H Q _ => ∃ (p : Addr) (fl : List Str) (s : Sh) (S : Addr → Prop) (nm : Str), vs = [.ref p, .str nm] ∧ ShapeAt C H p fl s S ∧ okSh s ∧ nm ∈ (rowsS s).map (·.1) ∧ ∀ H', Ex H H' → Q .non H'
theorem ok_Shape_need_list (T : Txt K mg C_Shape) (R : Prg K mg C_Shape) : ∃ f fd, Mt P w K mg base C_Shape "need_list" 1 ["self", "name"] (spNeed C_Shape) f fd := by
  obtain ⟨f, fd, F, fi, isf, kp⟩ := R.Shape_need_list
  refine ⟨f, fd, F.ok sc_Shape_need_list (fun vs H Q E h => ?_) (fun cdv A outer s H vs Q E hr h => ?_), ⟨fi, isf, kp⟩, F.binds (fun _ _ _ _ _ _ us hl => match us, hl with | [_, _], _ => rfl)⟩
  · obtain ⟨p, fl, s, S, nm, rfl, _⟩ := h; rfl
  · obtain ⟨p, fl, z, S, nm, rfl, ⟨dx, ft, tb, hp, hft, htb⟩, hz, hm, k⟩ := h
    obtain ⟨r, hr1, rfl⟩ := List.mem_map.mp hm
    obtain ⟨es, hes, _, _, hget⟩ := tab_get hz.2.1 htb
    obtain ⟨tp, fv, hv, _⟩ := hget r hr1
    refine ⟨_, (pss_one (ps_if (pt_cmp (pc_dnotin (hu_of hr) (pv 1) (show PE _ _ (tFld K _ _) from pe_fld (pv 0) rfl))) pss_never pss_nil)), ?_⟩
    refine ⟨_, rfl, _, rfl, p, C_Shape, dx, _, _, rfl, hp, T.cl_Shape, T.no_Shape_table, shF_table _ _, tb, _, rfl, .inl ⟨es, Sum.inr r.1, .inl hes, rfl, rfl⟩, _, rfl, ?_⟩
    rw [hv]
    refine iteF ?_
    exact k H (Ex.refl _)
def spIn (C : Addr) : Sp := fun vs H Q _ => ∃ (p : Addr) (fl : List Str) (s : Sh) (S : Addr → Prop) (par : Option Str), vs = [.ref p, oV par] ∧ ShapeAt C H p fl s S ∧ okSh s ∧
  ∀ H' q ys, Ex H H' → H q = none → H' q = some (.lst (ys.map V.str)) → ys.Perm (kids s par) → sortedS ys = true → Q (.ref q) H'
theorem ok_Shape_lists_in (T : Txt K mg C_Shape) (R : Prg K mg C_Shape) : ∃ f fd, Mt P w K mg base C_Shape "lists_in" 1 ["self", "parent"] (spIn C_Shape) f fd := by
  obtain ⟨f, fd, F, fi, isf, kp⟩ := R.Shape_lists_in
  refine ⟨f, fd, F.ok sc_Shape_lists_in (fun vs H Q E h => ?_) (fun cdv A outer s H vs Q E hr h => ?_), ⟨fi, isf, kp⟩, F.binds (fun _ _ _ _ _ _ us hl => match us, hl with | [_, _], _ => rfl)⟩
  · obtain ⟨p, fl, s, S, par, rfl, _⟩ := h; rfl
  · obtain ⟨p, fl, z, S, par, rfl, ⟨dx, ft, tb, hp, hft, htb⟩, hz, k⟩ := h
    obtain ⟨es, hes, le, hat, hget⟩ := tab_get hz.2.1 htb
    obtain ⟨r4, _⟩ := okSh_rows hz
    have ptb : p ≠ tb := fun e => by rw [e, hes] at hp; cases hp
    refine ⟨_, (pss_one (ps_ret (pe_callB (r := rSortedS K) cr_sortedS (by rfl) T.sorted (by decide +kernel) (pa_cons (pe_lock (pe_lc (own := [("name", 2)]) rfl sc_Shape_lists_in.nd (pi_keys (show PE _ _ (tFld K _ _) from pe_fld (pv 0) rfl)) (blkOk_by (own := [("name", 2)]) (N := ["self", "parent", "name"]) (sc := defScope s_Shape_lists_in) (by decide +kernel)) (fun _ _ _ _ _ => (pg_name (i := 2) sc_Shape_lists_in.nd rfl (Or.inl rfl))) (fun _ _ _ _ _ => (pts_one (pt_cmpR op_eq (pe_ix (r := rIxT K) ix_tup (pe_dget (hu_of hr) (show PE _ _ (tFld K _ _) from pe_fld (pv 0) rfl) (pv 2) (fun _ _ => rfl)) pe_int (fun _ _ => rfl)) (pv 1) (nomark _)))) (fun _ _ _ _ _ => (pv 2)))) pa_nil)))), ?_⟩
    refine ⟨tb, .dK es, hes, trivial, fun od => ⟨_, rfl, p, C_Shape, dx, _, _, rfl, by rw [upd_ne ptb]; exact hp, T.cl_Shape, T.no_Shape_table, shF_table _ _, tb, od, rfl, .inl ⟨es, upd_same, fun Dl hD => ?_⟩⟩⟩
    have nDt : Dl ≠ tb := fun e => by rw [e, upd_same] at hD; cases hD
    refine lc_it (lock_keys (d := tb) (o := od) (es := es)) (fun i H' => Ex (upd H tb (.frz od (.dK es))) H' ∧ H' Dl = some (.lst ((((rowsS z).take i).filter fun r => decide (r.2.1 = par)).map fun r => V.str r.1))) ⟨Ex.new hD, upd_same⟩ (fun i H' _ p => p.1 _ _ upd_same) (fun i x H' H2 hi pv y => ?_) fun H' pv => ?_
    · obtain ⟨rfl, hx⟩ := y
      obtain ⟨e, hl⟩ := pv
      rw [List.getElem?_map] at hx
      cases hc : es[i]? with
      | none => rw [hc] at hx; cases hx
      | some kv =>
      rw [hc] at hx
      obtain ⟨key, v⟩ := kv
      obtain ⟨r, hr1, rfl, hv⟩ := hat i key v hc
      obtain ⟨tp, fv, hv2, htp, _⟩ := hget r (List.mem_of_getElem? hr1)
      have ev : v = .ref tp := Option.some.inj (hv.symm.trans hv2)
      subst ev
      cases hx
      have tt : H2 tp = some (.tup [oV r.2.1, fv]) := e _ _ (upd_tup hes (fun xs h => nomatch h) _ _ htp)
      have pp : H2 p = some (.ins C_Shape dx (shF ft tb)) := e _ _ (by rw [upd_ne ptb]; exact hp)
      have et : (rowsS z).take (i + 1) = (rowsS z).take i ++ [r] := by rw [List.take_add_one, hr1]; rfl
      refine ⟨rfl, _, rfl, p, C_Shape, dx, _, _, rfl, pp, T.cl_Shape, T.no_Shape_table, shF_table _ _, _, rfl, tb, .ref tp, rfl, .inl ⟨es, Sum.inr r.1, .inr ⟨od, e _ _ upd_same⟩, rfl, hv.symm⟩, tp, _, 0, _, rfl, rfl, Evl.st_of tt, rfl, _, rfl, oV_scal _ _, _, rfl, ?_⟩
      rw [oV_inj]
      refine ite2 (fun hc => ?_) (fun hc => ?_)
      · have hc := of_decide_eq_true hc
        refine ⟨_, rfl, _, hl, Evl.sz_lt ?_, Ex.mut e hD, ?_⟩
        · rw [List.length_map]
          exact Nat.lt_of_le_of_lt (List.length_filter_le _ _) (by rw [List.length_take]; omega)
        · rw [upd_same, et, List.filter_append, List.map_append]
          simp [hc, kV]
      · have hc : ¬ r.2.1 = par := fun z => hc (decide_eq_true z)
        refine ⟨e, ?_⟩
        rw [hl, et, List.filter_append, List.map_append]
        simp [hc]
    · obtain ⟨e, hl⟩ := pv
      refine ⟨e _ _ upd_same, Dl, kids z par, rfl, Evl.sq_of ?_, Nat.lt_of_le_of_lt (kids_len par) (by omega), fun ys q perm so hq => ?_⟩
      · rw [upd_ne nDt, hl]
        have et : (rowsS z).take (es.map fun e => kV e.1).length = rowsS z := List.take_of_length_le (by rw [List.length_map]; omega)
        rw [et]
        unfold kids
        rw [List.map_map]; rfl
      · have e2 : Ex H (upd H' tb (.dK es)) := unlock hes e
        exact k _ q ys (e2.trans (Ex.new hq)) (Evl.fresh_back e2 hq) upd_same perm so
def spOuter (C : Addr) : Sp := fun vs H Q _ => ∃ (p : Addr) (fl : List Str) (s : Sh) (S : Addr → Prop), vs = [.ref p] ∧ ShapeAt C H p fl s S ∧ okSh s ∧
  ∀ H' q ys, Ex H H' → H q = none → H' q = some (.lst (ys.map V.str)) → ys.Perm (kids s none) → sortedS ys = true → Q (.ref q) H'
theorem ok_Shape_outer (T : Txt K mg C_Shape) (R : Prg K mg C_Shape) : ∃ f fd, Mt P w K mg base C_Shape "outer" 2 ["self"] (spOuter C_Shape) f fd := by
  obtain ⟨_, _, G_Shape_lists_in⟩ := ok_Shape_lists_in (P := P) (w := w) (base := base) T R
  obtain ⟨f, fd, F, fi, isf, kp⟩ := R.Shape_outer
  refine ⟨f, fd, F.ok sc_Shape_outer (fun vs H Q E h => ?_) (fun cdv A outer s H vs Q E hr h => ?_), ⟨fi, isf, kp⟩, F.binds (fun _ _ _ _ _ _ us hl => match us, hl with | [_], _ => rfl)⟩
  · obtain ⟨p, fl, s, S, rfl, _⟩ := h; rfl
  · obtain ⟨p, fl, z, S, rfl, hS, hz, k⟩ := h
    obtain ⟨dx, ft, tb, hp, hft, htb⟩ := id hS
    refine ⟨_, (pss_one (ps_ret (pmt (pv 0) T.cl_Shape G_Shape_lists_in hr (pa_cons pe_non pa_nil)))), ?_⟩
    exact ⟨_, rfl, p, dx, _, rfl, hp, shF_no _ _ (by decide +kernel) (by decide +kernel), p, fl, z, S, none, rfl, hS, hz, k⟩
def spInner (C : Addr) : Sp := fun vs H Q _ => ∃ (p : Addr) (fl : List Str) (s : Sh) (S : Addr → Prop) (nm : Str), vs = [.ref p, .str nm] ∧ ShapeAt C H p fl s S ∧ okSh s ∧ nm ∈ (rowsS s).map (·.1) ∧
  ∀ H' q ys, Ex H H' → H q = none → H' q = some (.lst (ys.map V.str)) → ys.Perm (kids s (some nm)) → sortedS ys = true → Q (.ref q) H'
theorem ok_Shape_inner (T : Txt K mg C_Shape) (R : Prg K mg C_Shape) : ∃ f fd, Mt P w K mg base C_Shape "inner" 2 ["self", "name"] (spInner C_Shape) f fd := by
  obtain ⟨_, _, G_Shape_lists_in⟩ := ok_Shape_lists_in (P := P) (w := w) (base := base) T R
  obtain ⟨_, _, G_Shape_need_list⟩ := ok_Shape_need_list (P := P) (w := w) (base := base) T R
  obtain ⟨f, fd, F, fi, isf, kp⟩ := R.Shape_inner
  refine ⟨f, fd, F.ok sc_Shape_inner (fun vs H Q E h => ?_) (fun cdv A outer s H vs Q E hr h => ?_), ⟨fi, isf, kp⟩, F.binds (fun _ _ _ _ _ _ us hl => match us, hl with | [_, _], _ => rfl)⟩
  · obtain ⟨p, fl, s, S, nm, rfl, _⟩ := h; rfl
  · obtain ⟨p, fl, z, S, nm, rfl, hS, hz, hm, k⟩ := h
    obtain ⟨dx, ft, tb, hp, hft, htb⟩ := id hS
    refine ⟨_, (pss_cons (ps_expr (pmt (pv 0) T.cl_Shape G_Shape_need_list hr (pa_cons (pv 1) pa_nil)))
  (pss_one (ps_ret (pmt (pv 0) T.cl_Shape G_Shape_lists_in hr (pa_cons (pv 1) pa_nil))))), ?_⟩
    refine ⟨_, rfl, p, dx, _, rfl, hp, shF_no _ _ (by decide +kernel) (by decide +kernel), _, rfl, p, fl, z, S, nm, rfl, hS, hz, hm, fun H1 e1 => ?_⟩
    exact ⟨_, rfl, p, dx, _, rfl, e1 _ _ hp, shF_no _ _ (by decide +kernel) (by decide +kernel), _, rfl, p, fl, z, S, some nm, rfl, hS.ex e1, hz, fun H' q ys e2 hq => k H' q ys (e1.trans e2) (Evl.fresh_back e1 hq)⟩
def spFields (C : Addr) : Sp := fun vs H Q _ => ∃ (p : Addr) (fl : List Str) (s : Sh) (S : Addr → Prop) (r : Ro), vs = [.ref p, .str r.1] ∧ ShapeAt C H p fl s S ∧ okSh s ∧ r ∈ rowsS s ∧
  ∀ H' q, Ex H H' → Rep H' 3 (fun b => H b = none) (flD r.2.2) (.ref q) → Q (.ref q) H'
theorem ok_Shape_fields (T : Txt K mg C_Shape) (R : Prg K mg C_Shape) : ∃ f fd, Mt P w K mg base C_Shape "fields" 2 ["self", "name"] (spFields C_Shape) f fd := by
  obtain ⟨_, _, G_Shape_need_list⟩ := ok_Shape_need_list (P := P) (w := w) (base := base) T R
  obtain ⟨f, fd, F, fi, isf, kp⟩ := R.Shape_fields
  refine ⟨f, fd, F.ok sc_Shape_fields (fun vs H Q E h => ?_) (fun cdv A outer s H vs Q E hr h => ?_), ⟨fi, isf, kp⟩, F.binds (fun _ _ _ _ _ _ us hl => match us, hl with | [_, _], _ => rfl)⟩
  · obtain ⟨p, fl, s, S, r, rfl, _⟩ := h; rfl
  · obtain ⟨p, fl, z, S, r, rfl, hS, hz, hr1, k⟩ := h
    obtain ⟨dx, ft, tb, hp, hft, htb⟩ := id hS
    obtain ⟨es, hes, le, hat, hget⟩ := tab_get hz.2.1 htb
    obtain ⟨tp, fv, hv, htp, hfv⟩ := hget r hr1
    refine ⟨_, (pss_cons (ps_expr (pmt (pv 0) T.cl_Shape G_Shape_need_list hr (pa_cons (pv 1) pa_nil)))
  (pss_one (ps_ret (pe_callTy call_dictD (by rfl) T.dict (by decide +kernel) (pa_cons (pe_ix (r := rIxT K) ix_tup (pe_dget (hu_of hr) (show PE _ _ (tFld K _ _) from pe_fld (pv 0) rfl) (pv 1) (fun _ _ => rfl)) pe_int (fun _ _ => rfl)) pa_nil))))), ?_⟩
    refine ⟨_, rfl, p, dx, _, rfl, hp, shF_no _ _ (by decide +kernel) (by decide +kernel), _, rfl, p, fl, z, S, r.1, rfl, hS, hz, List.mem_map.mpr ⟨r, hr1, rfl⟩, fun H1 e1 => ?_⟩
    obtain ⟨fa, fes, rfl, hfa, _, mk⟩ := fl_new (rep_ex e1 hfv)
    refine ⟨_, rfl, p, C_Shape, dx, _, _, rfl, e1 _ _ hp, T.cl_Shape, T.no_Shape_table, shF_table _ _, _, rfl, tb, .ref tp, rfl, .inl ⟨es, Sum.inr r.1, .inl (e1 _ _ hes), rfl, hv.symm⟩, tp, _, 1, _, rfl, rfl, Evl.st_of (e1 _ _ htp), rfl, fa, fes, rfl, .inl hfa, fun q hq => ?_⟩
    exact k _ q (e1.trans (Ex.new hq)) (mk (fun a xs h => Ex.new hq _ _ h) (Evl.fresh_back e1 hq) upd_same)
end
end Pk

namespace Pk
open PySem PySem.Spec PyProof.Rows L2 Ssb
open Evl (Ex Ev EvT EvL EvA EvU)
/-! ### is_integer, is_choice, check_words -/
section
variable {P : Program} {w : World} {K : PySem.W.Frag} {mg : Str → Option Value} {base : Heap} {C_Shape : Addr}
def preInt : List V → Hp → Prop := fun vs _ => ∃ i lo hi : Int, vs = [.int i, .int lo, .int hi] ∧ lo ≤ i ∧ i ≤ hi
theorem ok_is_integer (T : Txt K mg C_Shape) (R : Prg K mg C_Shape) : ∃ f fd, Fn P w K mg base "is_integer" 1 ["value", "least", "most"] (spV (.bl true) preInt) f fd := by
  obtain ⟨f, fd, at_, F, kp⟩ := R.is_integer
  refine ⟨f, fd, F.ok sc_is_integer (fun vs H Q E h => ?_) (fun cdv A outer s H vs Q E hr h => ?_), at_, kp, F.binds (fun _ _ _ _ _ _ us hl => match us, hl with | [_, _, _], _ => rfl)⟩
  · obtain ⟨⟨i, lo, hi, rfl, _⟩, _⟩ := h; rfl
  · obtain ⟨⟨i, lo, hi, rfl, h1, h2⟩, k⟩ := h
    refine ⟨_, (pss_one (ps_ret (pe_and (pe_callB (r := rIsi K) call_isi (by rfl) T.isinstance (by decide +kernel) (pa_cons (pv 0) (pa_cons (pe_bltn (v := .ty "int") (by rfl) T.int boot_int rfl) pa_nil))) (pe_and (pe_not (pe_callB (r := rIsi K) call_isi (by rfl) T.isinstance (by decide +kernel) (pa_cons (pv 0) (pa_cons (pe_bltn (v := .ty "bool") (by rfl) T.bool boot_bool rfl) pa_nil)))) (pe_one (pe_chain op_le op_le (pv 1) (pv 0) (pv 2))))))), ?_⟩
    refine Evl.s_ret (Evl.ev_is (Evl.ev_andV (a := true) (b := true) (ev_isi (Evl.ev_var rfl) (fun H1 e1 => .base (.int i)) (kit_ty (by decide +kernel))) fun _ => Evl.ev_is (Evl.ev_andV (a := true) (b := true) (Evl.ev_notV (a := false) (ev_isi (Evl.ev_var rfl) (fun H1 e1 => .base (.int i)) (kit_ty (by decide +kernel)))) fun _ => Evl.ev_is (ev_chain (Evl.ev_var rfl) (Evl.ev_var rfl) (Evl.ev_var rfl) Evl.rv_I0 Evl.rv_I0) ?_) rfl) rfl) fun H2 e2 => k H2 e2
    rw [decide_eq_true h1, decide_eq_true h2]; rfl
def txtBl (v : V) : Prop := (∃ s, v = .str s) ∨ ∃ b, v = .bl b
def preChoice : List V → Hp → Prop := fun vs H => ∃ (v : V) (t : Addr) (xs : List V), vs = [v, .ref t] ∧ H t = some (.tup xs) ∧ txtBl v ∧ (∀ x ∈ xs, txtBl x) ∧ v ∈ xs
theorem txtBl_flat {v : V} (h : txtBl v) : flatV v = true := by
  rcases h with ⟨s, rfl⟩ | ⟨b, rfl⟩ <;> rfl
theorem txtBl_eq {v : V} (h : txtBl v) : eqV v v = true := by
  rcases h with ⟨s, rfl⟩ | ⟨b, rfl⟩ <;> simp [eqV]
theorem ok_is_choice (T : Txt K mg C_Shape) (R : Prg K mg C_Shape) : ∃ f fd, Fn P w K mg base "is_choice" 1 ["value", "several"] (spV (.bl true) preChoice) f fd := by
  obtain ⟨f, fd, at_, F, kp⟩ := R.is_choice
  refine ⟨f, fd, F.ok sc_is_choice (fun vs H Q E h => ?_) (fun cdv A outer s H vs Q E hr h => ?_), at_, kp, F.binds (fun _ _ _ _ _ _ us hl => match us, hl with | [_, _], _ => rfl)⟩
  · obtain ⟨⟨v, t, xs, rfl, _⟩, _⟩ := h; rfl
  · obtain ⟨⟨v, t, xs, rfl, ht, hv, hx, hm⟩, k⟩ := h
    refine ⟨_, (pss_one (ps_ret (pe_and (pe_callB (r := rIsiT K) call_isiT (by rfl) T.isinstance (by decide +kernel) (pa_cons (pv 0) (pa_cons (pe_tup (pa_cons (pe_bltn (v := .ty "str") (by rfl) T.str boot_str rfl) (pa_cons (pe_bltn (v := .ty "bool") (by rfl) T.bool boot_bool rfl) pa_nil))) pa_nil))) (pe_one (pe_cmpR (r := rIn K false) op_in_seq (pv 0) (pv 1) (by rfl)))))), ?_⟩
    have kind : ∃ ty, (∀ H1, Ex H H1 → TyX K H1 v ty) ∧ PySem.W.kitAny K ty [.type "str", .type "bool"] = some true := by
      rcases hv with ⟨s, rfl⟩ | ⟨b, rfl⟩
      · exact ⟨_, fun H1 _ => .base (.str s), kitAny_cons (b := true) (kit_ty (by decide +kernel)) (fun h => nomatch h) fun _ => rfl⟩
      · exact ⟨_, fun H1 _ => .base (.bl b), kitAny_cons (b := false) (kit_ty (by decide +kernel)) (fun _ => kitAny_cons (b := true) (kit_ty (by decide +kernel)) (fun h => nomatch h) fun _ => rfl) fun h => nomatch h⟩
    obtain ⟨ty, hty, hk⟩ := kind
    refine Evl.s_ret (Evl.ev_is (Evl.ev_andV (a := true) (b := true) (ev_isi2 (Evl.ev_var rfl) hty hk) fun _ => Evl.ev_is (Evl.ev_op (Evl.ev_var rfl) (Evl.ev_var rfl) (Evl.rv_isT (Evl.st_of ht) (txtBl_flat hv) (List.all_eq_true.mpr fun x hx' => txtBl_flat (hx x hx')))) ?_) rfl) fun H2 e2 => k H2 e2
    have : inV v xs = true := by
      unfold inV
      exact List.any_eq_true.mpr ⟨v, hm, txtBl_eq hv⟩
    rw [this]
/-- choices: from names to tuples of what may be chosen -/
def ChoAt (H : Hp) (ch : Addr) (c : List (Str × List V)) : Prop := ∃ es, H ch = some (.dK es) ∧ Paired (fun (q : Str × List V) (e : Key × V) => e.1 = Sum.inr q.1 ∧ ∃ t, e.2 = .ref t ∧ H t = some (.tup q.2)) c es
theorem ChoAt.ex {H H' : Hp} {ch : Addr} {c : List (Str × List V)} (e : Ex H H') (h : ChoAt H ch c) : ChoAt H' ch c := by
  obtain ⟨es, h1, pr⟩ := h
  exact ⟨es, e _ _ h1, pair_imp pr fun a b h => ⟨h.1, h.2.choose, h.2.choose_spec.1, e _ _ h.2.choose_spec.2⟩⟩
theorem lk_mem {α : Type} : ∀ {c : List (Str × α)} {k : Str}, k ∈ c.map (·.1) → ∃ x, c.lookup k = some x ∧ (k, x) ∈ c
  | [], k, h => nomatch h
  | (j, a) :: c, k, h => by
    rw [lk_cons]
    by_cases e : k = j
    · subst e
      exact ⟨a, by rw [if_pos rfl], List.mem_cons_self⟩
    · rcases List.mem_cons.mp h with h | h
      · exact absurd h e
      · obtain ⟨x, h1, h2⟩ := lk_mem h
        exact ⟨x, by rw [if_neg e]; exact h1, List.mem_cons_of_mem _ h2⟩
theorem pair_lkV {F : List V → V → Prop} : ∀ {l : List (Str × List V)} {es : List (Key × V)}, Paired (fun (q : Str × List V) (e : Key × V) => e.1 = Sum.inr q.1 ∧ F q.2 e.2) l es → ∀ {k : Str} {d : List V}, l.lookup k = some d → ∃ v, valV es (Sum.inr k : Key) = some v ∧ F d v
  | _, _, .nil, k, d, h => by simp [List.lookup] at h
  | (j, d0) :: l, e :: es, .cons h t, k, d, hk => by
    rw [lk_cons] at hk
    rw [vV_cons]
    by_cases c : k = j
    · rw [if_pos c] at hk
      cases hk
      exact ⟨e.2, by rw [if_pos (by rw [h.1, c])], h.2⟩
    · rw [if_neg c] at hk
      obtain ⟨v, h1, h2⟩ := pair_lkV t hk
      exact ⟨v, by rw [if_neg (by rw [h.1]; intro z; exact c (Sum.inr.inj z).symm)]; exact h1, h2⟩
def dV : D → V
  | .str s => .str s
  | .bl b => .bl b
  | _ => .non
theorem rep_dV {H : Hp} {n : Nat} {S : Addr → Prop} {d : D} {v : V} (h : Rep H n S d v) (t : txtBl (dV d)) : v = dV d := by
  cases n with
  | zero => exact h.elim
  | succ n =>
  cases d with
  | str s => exact h
  | bl b => exact h
  | non => rcases t with ⟨_, h⟩ | ⟨_, h⟩ <;> cases h
  | int i => rcases t with ⟨_, h⟩ | ⟨_, h⟩ <;> cases h
  | lst l => rcases t with ⟨_, h⟩ | ⟨_, h⟩ <;> cases h
  | tup l => rcases t with ⟨_, h⟩ | ⟨_, h⟩ <;> cases h
  | dic l => rcases t with ⟨_, h⟩ | ⟨_, h⟩ <;> cases h
/-- chosen fits the choices -/
def fits (l : List (Str × D)) (c : List (Str × List V)) : Prop := l.length = c.length ∧ c.length ≤ 60 ∧ ∀ q ∈ c, (∀ x ∈ q.2, txtBl x) ∧ ∃ d, l.lookup q.1 = some d ∧ dV d ∈ q.2
def preCw : List V → Hp → Prop := fun vs H => ∃ (v pl : V) (ch : Addr) (n : Nat) (S : Addr → Prop) (l : List (Str × D)) (c : List (Str × List V)), vs = [v, .ref ch, pl] ∧ Rep H n S (.dic l) v ∧ ChoAt H ch c ∧ fits l c
theorem ok_check_words (T : Txt K mg C_Shape) (R : Prg K mg C_Shape) : ∃ f fd, Fn P w K mg base "check_words" 2 ["chosen", "choices", "place"] (spV .non preCw) f fd := by
  obtain ⟨_, _, G_has_names⟩ := ok_has_names (P := P) (w := w) (base := base) T R
  obtain ⟨_, _, G_is_choice⟩ := ok_is_choice (P := P) (w := w) (base := base) T R
  obtain ⟨f, fd, at_, F, kp⟩ := R.check_words
  refine ⟨f, fd, F.ok sc_check_words (fun vs H Q E h => ?_) (fun cdv A outer s H vs Q E hr h => ?_), at_, kp, F.binds (fun _ _ _ _ _ _ us hl => match us, hl with | [_, _, _], _ => rfl)⟩
  · obtain ⟨⟨v, pl, ch, n, S, l, c, rfl, _⟩, _⟩ := h; rfl
  · obtain ⟨⟨v, pl, ch, n, S, l, c, rfl, hv, hch, hl, hc60, hq⟩, k⟩ := h
    obtain ⟨es, hes, pr⟩ := id hch
    have le := pair_len pr
    have keys : es.map (fun kv => kV kv.1) = (c.map (·.1)).map V.str := by
      have key : ∀ {c : List (Str × List V)} {es : List (Key × V)}, Paired (fun (q : Str × List V) (e : Key × V) => e.1 = Sum.inr q.1 ∧ ∃ t, e.2 = .ref t ∧ H t = some (.tup q.2)) c es → es.map (fun kv => kV kv.1) = (c.map (·.1)).map V.str := by
        intro c es p
        induction p with
        | nil => rfl
        | cons h t ih => rw [List.map_cons, ih, h.1]; rfl
      exact key pr
    refine ⟨_, (pss_cons (ps_if (pt_not (pt_val (pcl G_has_names hr (pa_cons (pv 0) (pa_cons (pe_callTy (call_listD rfl) (by rfl) T.list (by decide +kernel) (pa_cons (pv 1) pa_nil)) pa_nil))))) pss_never pss_nil)
  (pss_one (ps_for PassesOwn.never rfl (show PI _ _ _ (iList K _) from pi_list (pe_callB (r := rSortedS K) cr_sortedS (by rfl) T.sorted (by decide +kernel) (pa_cons (pe_callTy (call_listD rfl) (by rfl) T.list (by decide +kernel) (pa_cons (pv 1) pa_nil)) pa_nil))) (pg_name (i := 3) sc_check_words.nd rfl (Or.inl rfl))
    (pss_one (ps_if (pt_not (pt_val (pcl G_is_choice hr (pa_cons (pe_dget (hu_of hr) (pv 0) (pv 3) (fun _ _ => rfl)) (pa_cons (pe_dget (hu_of hr) (pv 1) (pv 3) (fun _ _ => rfl)) pa_nil))))) pss_never pss_nil))))), ?_⟩
    refine Evl.q_when (b := false) (Evl.et_not (a := true) (Evl.et_B fun H1 e1 Q' q' => ?_)) (fun h => nomatch h) fun _ H1 e1 => ?_
    · refine ⟨_, rfl, _, rfl, ch, es, rfl, .inl (e1 _ _ hes), fun a ha => ⟨⟨v, a, n, S, l, c.map (·.1), rfl, rep_ex (e1.trans (Ex.new ha)) hv, Evl.sq_of (by rw [upd_same, keys]), by rw [List.length_map]; omega, by rw [List.length_map]; exact hl, fun x hx => ?_⟩, fun H2 e2 => q' H2 ((Ex.new ha).trans e2)⟩⟩
      obtain ⟨q, hq1, rfl⟩ := List.mem_map.mp hx
      obtain ⟨_, d, hd, _⟩ := hq q hq1
      rw [hd]; rfl
    · refine ⟨_, rfl, ch, es, rfl, .inl (e1 _ _ hes), fun a ha => ⟨a, c.map (·.1), rfl, Evl.sq_of (by rw [upd_same, keys]), by rw [List.length_map]; omega, fun ys b perm so hb => ?_⟩⟩
      have e2 : Ex H (upd (upd H1 a (.lst (es.map fun kv => kV kv.1))) b (.lst (ys.map V.str))) := e1.trans ((Ex.new ha).trans (Ex.new hb))
      have hb2 : (upd (upd H1 a (.lst (es.map fun kv => kV kv.1))) b (.lst (ys.map V.str))) b = some (.lst (ys.map V.str)) := upd_same
      generalize (upd (upd H1 a (.lst (es.map fun kv => kV kv.1))) b (.lst (ys.map V.str))) = H2 at e2 hb2 ⊢
      refine ⟨b, rfl, ⟨_, Evl.sq_of hb2⟩, for_list (K := K) (a := b) (xs := ys.map V.str) (fun i σ' H' => ∃ o, σ' = [some v, some (.ref ch), some pl, o] ∧ Ex H2 H') ⟨_, rfl, Ex.refl _⟩ (fun i σ' H' _ ⟨_, _, e⟩ => Evl.sq_of (e _ _ hb2)) (fun i x σ' H' hx ⟨o, eσ, e⟩ => ?_) fun σ' H' ⟨_, _, e⟩ => k H' (e2.trans e)⟩
      subst eσ
      rw [List.getElem?_map] at hx
      cases hy : ys[i]? with
      | none => rw [hy] at hx; cases hx
      | some y =>
      rw [hy] at hx
      cases hx
      obtain ⟨xs, hlk, hmem⟩ := lk_mem (perm.mem_iff.mp (List.mem_of_getElem? hy))
      obtain ⟨htx, d, hd, hin⟩ := hq (y, xs) hmem
      obtain ⟨ve, hve, t, rfl, ht⟩ := pair_lkV (F := fun x v => ∃ t, v = .ref t ∧ H t = some (.tup x)) pr hlk
      cases n with
      | zero => exact hv.elim
      | succ n =>
      obtain ⟨dv, des, rfl, _, hdv, _, dpr⟩ := id hv
      obtain ⟨vd, hvd, hrd⟩ := rep_entry dpr hd
      have evd := rep_dV hrd (htx _ hin)
      subst evd
      have e3 := e2.trans e
      exact Evl.s_when (b := false) (Evl.et_not (a := true) (Evl.et_B (spV_ev (Evl.ea_cons (ev_get (Evl.ev_var rfl) (Evl.ev_var rfl) (.inl (e3 _ _ hdv)) hvd) (Evl.ea_cons (ev_get (Evl.ev_var rfl) (Evl.ev_var rfl) (.inl (e3 _ _ hes)) hve) Evl.ea_nil)) fun H4 e4 => ⟨_, t, xs, rfl, e4 _ _ (e3 _ _ ht), htx _ hin, htx, hin⟩))) (fun h => nomatch h) fun _ H4 e4 => ⟨_, rfl, e.trans e4⟩
end
end Pk

namespace Pk
open PySem PySem.Spec PyProof.Rows L2 Ssb
open Evl (Ex Ev EvT EvL EvA EvU)
/-! ### rows_in -/
/-- the number of rows, m levels of lists deep -/
def rowsN : Nat → D → Int
  | 0, _ => 0
  | m + 1, d => match d with
    | .dic l => match l.lookup ("lists" : Str) with
      | some (.dic ls) => (ls.map fun p => match p.2 with
        | .lst rs => (rs.length : Int) + (rs.map (rowsN m)).sum
        | _ => 0).sum
      | _ => 0
    | _ => 0
def rowsL (m : Nat) : D → Int
  | .lst rs => (rs.length : Int) + (rs.map (rowsN m)).sum
  | _ => 0
/-- data or a row, m levels of lists deep -/
def wfR : Nat → D → Prop
  | 0, _ => False
  | m + 1, d => ∃ l ls, d = .dic l ∧ l.lookup ("lists" : Str) = some (.dic ls) ∧ ∀ p ∈ ls, ∃ rs, p.2 = .lst rs ∧ ∀ r ∈ rs, wfR m r
theorem rowsN_eq {m : Nat} {l ls : List (Str × D)} (h : l.lookup ("lists" : Str) = some (.dic ls)) : rowsN (m + 1) (.dic l) = (ls.map fun p => rowsL m p.2).sum := by
  show (match l.lookup ("lists" : Str) with | some (.dic ls) => _ | _ => (0 : Int)) = _
  rw [h]
  rfl
theorem map_range {α β : Type} {f : Nat → β} {g : α → β} : ∀ {l : List α} {n : Nat}, l.length = n → (∀ (i : Nat) (a : α), l[i]? = some a → f i = g a) → (List.range n).map f = l.map g := fun {l n} hn h => by
  refine List.ext_getElem? fun i => ?_
  rw [List.getElem?_map, List.getElem?_map]
  by_cases hi : i < n
  · have e : l[i]? = some (l[i]'(by omega)) := List.getElem?_eq_getElem (by omega)
    rw [e, List.getElem?_range hi]
    exact congrArg some (h i _ e)
  · have e : l[i]? = none := List.getElem?_eq_none_iff.mpr (by omega)
    rw [e, List.getElem?_eq_none_iff.mpr (by rw [List.length_range]; omega)]
    rfl
section
variable {P : Program} {w : World} {K : PySem.W.Frag} {mg : Str → Option Value} {base : Heap} {C_Shape : Addr}
def spRi (m : Nat) : Sp := fun vs H Q _ => ∃ (v : V) (n : Nat) (S : Addr → Prop) (d : D), vs = [v] ∧ Rep H n S d v ∧ wfR m d ∧ ∀ H', Ex H H' → Q (.int (rowsN m d)) H'
theorem ok_rows_in (T : Txt K mg C_Shape) (R : Prg K mg C_Shape) : ∀ m, ∃ f fd, Fn P w K mg base "rows_in" (m + 1) ["data"] (spRi m) f fd
  | 0 => by
    obtain ⟨f, fd, at_, F, kp⟩ := R.rows_in
    refine ⟨f, fd, F.ok sc_rows_in (fun vs H Q E h => ?_) (fun cdv A outer s H vs Q E hr h => ?_), at_, kp, F.binds (fun _ _ _ _ _ _ us hl => match us, hl with | [_], _ => rfl)⟩
    · obtain ⟨v, n, S, d, rfl, _⟩ := h; rfl
    · obtain ⟨v, n, S, d, rfl, hv, hw, k⟩ := h; exact hw.elim
  | m + 1 => by
    obtain ⟨f0, fd0, G_rows_in⟩ := ok_rows_in T R m
    obtain ⟨f, fd, at_, F, kp⟩ := R.rows_in
    refine ⟨f, fd, F.ok sc_rows_in (fun vs H Q E h => ?_) (fun cdv A outer s H vs Q E hr h => ?_), at_, kp, F.binds (fun _ _ _ _ _ _ us hl => match us, hl with | [_], _ => rfl)⟩
    · obtain ⟨v, n, S, d, rfl, _⟩ := h; rfl
    · obtain ⟨v, n, S, d, rfl, hv, ⟨l, ls, rfl, hl, hw⟩, k⟩ := h
      rw [rowsN_eq hl] at k
      cases n with
      | zero => exact hv.elim
      | succ n =>
      obtain ⟨dv, des, rfl, _, hdv, _, dpr⟩ := id hv
      obtain ⟨vl, hvl, hrl⟩ := rep_entry dpr hl
      cases n with
      | zero => exact hrl.elim
      | succ n =>
      obtain ⟨da, es, rfl, ⟨_, nda⟩, hda, hlen, pr⟩ := id hrl
      have le := pair_len pr
      have lsAt : ∀ (i : Nat) (x : Key) (v : V), es[i]? = some (x, v) → ∃ p, ls[i]? = some p ∧ Rep H (n + 1) (fun b => (S b ∧ b ≠ dv) ∧ b ≠ da) p.2 v := fun i x v hx => by
        obtain ⟨p, hp, _, h2⟩ := pair_back pr hx
        exact ⟨p, hp, rep_up h2⟩
      refine ⟨_, (pss_one (ps_ret (pe_callB (r := rSum K) (cr_sum rfl) (by rfl) T.sum (by decide +kernel) (pa_cons (pe_lock (pe_lc (own := [("rows", 1)]) rfl sc_rows_in.nd (pi_values (pe_dget (hu_of hr) (pv 0) pe_str (fun _ _ => rfl))) (blkOk_by (own := [("rows", 1)]) (N := ["data", "rows", "row"]) (sc := defScope s_rows_in) (by decide +kernel)) (fun _ _ _ _ _ => (pg_name (i := 1) sc_rows_in.nd rfl (Or.inl rfl))) (fun _ _ _ _ _ => pts_nil) (fun _ _ _ _ _ => (pe_op op_add (pe_callB (r := rLenA K) call_len (by rfl) T.len (by decide +kernel) (pa_cons (pv 1) pa_nil)) (pe_callB (r := rSum K) (cr_sum rfl) (by rfl) T.sum (by decide +kernel) (pa_cons (pe_lc (own := [("row", 2)]) rfl sc_rows_in.nd (show PI _ _ _ (iList K _) from pi_list (pv 1)) (blkOk_by (own := [("row", 2)]) (N := ["data", "rows", "row"]) (sc := { kind := .function, names := [(".0", .local), ("rows", .local), ("len", .globalImplicit), ("sum", .globalImplicit)], isGenerator := false, isCoroutine := false }) (by decide +kernel)) (fun _ _ _ _ _ => (pg_name (i := 2) sc_rows_in.nd rfl (Or.inl rfl))) (fun _ _ _ _ _ => pts_nil) (fun _ _ _ _ _ => (pcl G_rows_in hr (pa_cons (pv 2) pa_nil)))) pa_nil)))))) pa_nil)))), ?_⟩
      refine Evl.s_ret (ev_sum (n := es.length) (c := fun i => rowsL m ((ls[i]?.map (·.2)).getD .non)) (el_lcV (d := da) (es := es) (fun H1 e1 od => ev_get (Evl.ev_var rfl) Evl.ev_c (.inl (by rw [upd_ne nda.symm]; exact e1 _ _ hdv)) hvl) hda (by omega) (fun _ => rfl) fun i x v hx od H1 H2 e1 e2 => ?_)) fun H2 e2 => ?_
      · obtain ⟨p, hp, hr1⟩ := lsAt i x v hx
        obtain ⟨rs, ep, hrs⟩ := hw p (List.mem_of_getElem? hp)
        have er : rowsL m ((ls[i]?.map (·.2)).getD .non) = (rs.length : Int) + (rs.map (rowsN m)).sum := by
          rw [hp]
          show rowsL m p.2 = _
          rw [ep]; rfl
        rw [er]
        have hr2 := rep_in (e1 _ _ hda) e2 (rep_ex e1 hr1)
        rw [ep] at hr2
        obtain ⟨ra, xs, rfl, _, hra, hl5, pp⟩ := id hr2
        have lx := pair_len pp
        refine Evl.ev_op (Evl.ev_is (ev_lenL (Evl.ev_var rfl) (.inl (Evl.sq_of hra))) (by rw [← lx])) (Evl.ev_is (ev_sum (n := xs.length) (c := fun j => rowsN m ((rs[j]?).getD .non)) (el_lcA (Evl.ev_var rfl) (Evl.sq_of hra) (by omega) (fun _ => rfl) fun j y hy H3 e3 => ?_)) ?_) Evl.rv_I0
        · obtain ⟨r, hr3, hr4⟩ := pair_back pp hy
          have e5 : rowsN m ((rs[j]?).getD .non) = rowsN m r := by rw [hr3]; rfl
          rw [e5]
          exact ev_fn (Evl.ea_cons (Evl.ev_var rfl) Evl.ea_nil) fun H4 e4 Q' q' => ⟨y, n, _, r, rfl, rep_ex (e3.trans e4) hr4, hrs r (List.mem_of_getElem? hr3), q'⟩
        · congr 1
          congr 1
          exact map_range lx fun j a ha => by rw [ha]; rfl
      · have := k H2 e2
        rw [← map_range (f := fun i => rowsL m ((ls[i]?.map (·.2)).getD .non)) le fun i a ha => by rw [ha]; rfl] at this
        exact this
end
/-! ### valid rows -/
def okFs (f : Fl) (c : List (Str × D)) : Prop := c.length = f.length ∧ ∀ p ∈ f, ∃ x, c.lookup p.1 = some (.str x) ∧ x ∈ p.2
def okRows (s : Sh) : Nat → Ro → D → Prop
  | 0, _, _ => False
  | m + 1, r, d => ∃ (rs : List D) (ids : List Int), d = .lst rs ∧ ids.Nodup ∧ rs.length ≤ 400 ∧ Paired (fun (row : D) (id : Int) => ∃ l fs ls, row = .dic l ∧ l.length = 3 ∧ l.lookup ("id" : Str) = some (.int id) ∧ 0 ≤ id ∧ id ≤ 1000000 ∧
      l.lookup ("fields" : Str) = some (.dic fs) ∧ okFs r.2.2 fs ∧ l.lookup ("lists" : Str) = some (.dic ls) ∧ ls.length = (kids s (some r.1)).length ∧ ∀ r' ∈ rowsS s, r'.2.1 = some r.1 → ∃ d', ls.lookup r'.1 = some d' ∧ okRows s m r' d') rs ids
def okLs (s : Sh) (m : Nat) (par : Option Str) (ls : List (Str × D)) : Prop := ls.length = (kids s par).length ∧ ∀ r' ∈ rowsS s, r'.2.1 = par → ∃ d', ls.lookup r'.1 = some d' ∧ okRows s m r' d'
theorem kids_mem {s : Sh} {par : Option Str} {x : Str} (h : x ∈ kids s par) : ∃ r ∈ rowsS s, r.2.1 = par ∧ r.1 = x := by
  obtain ⟨r, hr, rfl⟩ := List.mem_map.mp h
  have := List.mem_filter.mp hr
  exact ⟨r, this.1, of_decide_eq_true this.2, rfl⟩
section
variable {P : Program} {w : World} {K : PySem.W.Frag} {mg : Str → Option Value} {base : Heap} {C_Shape : Addr}
/-- place: a tuple, not empty, of few parts -/
def PlAt (H : Hp) (v : V) (n : Nat) : Prop := ∃ (a : Addr) (xs : List V), v = .ref a ∧ H a = some (.tup xs) ∧ xs ≠ [] ∧ xs.length ≤ n
theorem PlAt.ex {H H' : Hp} {v : V} {n : Nat} (e : Ex H H') (h : PlAt H v n) : PlAt H' v n := by
  obtain ⟨a, xs, h0, h1, h2, h3⟩ := h; exact ⟨a, xs, h0, e _ _ h1, h2, h3⟩
/-- place + (x,) -/
theorem ev_place {σ : L2.St} {H : Hp} {ta tb : TE} {pl y : V} {n : Nat} (h : Ev ta σ H pl) (hp : PlAt H pl n) (hn : n ≤ 1000) (hy : Ev tb σ H y) : EvP (tOp (rCatT K) ta (tTup (tCons tb tNil))) σ H fun v H' => PlAt H' v (n + 1) := fun H1 e Q q => by
  obtain ⟨a, xs, rfl, ha, ne, hl⟩ := hp
  refine h H1 e _ fun H2 e2 => hy H2 (e.trans e2) _ fun H3 e3 => ⟨(by show 1 ≤ sizeLine; decide), fun t ht => ⟨a, t, xs, [y], rfl, rfl, Evl.st_of ((e.trans (e2.trans (e3.trans (Ex.new ht)))) _ _ ha), Evl.st_of upd_same, ne, Evl.sz_of (by simp only [List.length_singleton]; omega), (fun z => nomatch z), fun _ p hp => ?_⟩⟩
  exact q _ _ (e2.trans (e3.trans ((Ex.new ht).trans (Ex.new hp)))) ⟨p, xs ++ [y], rfl, upd_same, by simp, by simp only [List.length_append, List.length_singleton]; omega⟩
def spCr (C : Addr) (m : Nat) : Sp := fun vs H Q _ => ∃ (p : Addr) (v pl : V) (n : Nat) (S : Addr → Prop) (d : D) (fl : List Str) (s : Sh) (S' : Addr → Prop) (r : Ro) (q : Nat), vs = [.ref p, .str r.1, v, pl] ∧ ShapeAt C H p fl s S' ∧ okSh s ∧ r ∈ rowsS s ∧ Rep H n S d v ∧ okRows s m r d ∧ PlAt H pl q ∧ q + 10 * m ≤ 802 ∧ ∀ H', Ex H H' → Q .non H'
def spCl (C : Addr) (m : Nat) : Sp := fun vs H Q _ => ∃ (p na : Addr) (v pl : V) (n : Nat) (S : Addr → Prop) (ls : List (Str × D)) (fl : List Str) (s : Sh) (S' : Addr → Prop) (par : Option Str) (nms : List Str) (q : Nat), vs = [.ref p, v, .ref na, pl] ∧ ShapeAt C H p fl s S' ∧ okSh s ∧ Rep H n S (.dic ls) v ∧ okLs s m par ls ∧ H na = some (.lst (nms.map V.str)) ∧ nms.Perm (kids s par) ∧ PlAt H pl q ∧ q + 10 * m ≤ 800 ∧ ∀ H', Ex H H' → Q .non H'
theorem ok_check_lists (T : Txt K mg C_Shape) (R : Prg K mg C_Shape) {m c : Nat} (G0 : ∃ f fd, Fn P w K mg base "check_rows" c ["shape", "name", "rows", "place"] (spCr C_Shape m) f fd) : ∃ f fd, Fn P w K mg base "check_lists" (c + 2) ["shape", "lists", "names", "place"] (spCl C_Shape m) f fd := by
  obtain ⟨_, _, G_check_rows⟩ := G0
  obtain ⟨_, _, G_has_names⟩ := ok_has_names (P := P) (w := w) (base := base) T R
  obtain ⟨f, fd, at_, F, kp⟩ := R.check_lists
  refine ⟨f, fd, F.ok sc_check_lists (fun vs H Q E h => ?_) (fun cdv A outer s H vs Q E hr h => ?_), at_, kp, F.binds (fun _ _ _ _ _ _ us hl => match us, hl with | [_, _, _, _], _ => rfl)⟩
  · obtain ⟨p, na, v, pl, n, S, ls, fl, s, S', par, nms, q, rfl, _⟩ := h; rfl
  · obtain ⟨p, na, v, pl, n, S, ls, fl, z, S', par, nms, q, rfl, hS, hz, hv, ⟨hlen, hls⟩, hna, perm, hpl, hq, k⟩ := h
    have ln : nms.length = (kids z par).length := perm.length_eq
    obtain ⟨r4, _⟩ := okSh_rows hz
    have l4 := kids_len (s := z) par
    refine ⟨_, (pss_cons (ps_if (pt_not (pt_val (pcl G_has_names hr (pa_cons (pv 1) (pa_cons (pv 2) pa_nil))))) pss_never pss_nil)
  (pss_one (ps_for PassesOwn.never rfl (show PI _ _ _ (iList K _) from pi_list (pv 2)) (pg_name (i := 4) sc_check_lists.nd rfl (Or.inl rfl))
    (pss_one (ps_expr (pcl G_check_rows hr (pa_cons (pv 0) (pa_cons (pv 4) (pa_cons (pe_dget (hu_of hr) (pv 1) (pv 4) (fun _ _ => rfl)) (pa_cons (pe_op (r := rCatT K) op_catT (pv 3) (pe_tup (pa_cons (pv 4) pa_nil))) pa_nil)))))))))), ?_⟩
    refine Evl.q_when (b := false) (Evl.et_not (a := true) (Evl.et_B (spV_ev (Evl.ea_cons (Evl.ev_var rfl) (Evl.ea_cons (Evl.ev_var rfl) Evl.ea_nil)) fun H1 e1 => ⟨v, na, n, S, ls, nms, rfl, rep_ex e1 hv, Evl.sq_of (e1 _ _ hna), by omega, by omega, fun x hx => ?_⟩))) (fun h => nomatch h) fun _ H1 e1 => ?_
    · obtain ⟨r, hr1, hr2, rfl⟩ := kids_mem (perm.mem_iff.mp hx)
      obtain ⟨d', hd', _⟩ := hls r hr1 hr2
      rw [hd']; rfl
    · refine ⟨_, rfl, na, rfl, ⟨_, Evl.sq_of (e1 _ _ hna)⟩, for_list (K := K) (a := na) (xs := nms.map V.str) (fun i σ' H' => ∃ o, σ' = [some (.ref p), some v, some (.ref na), some pl, o] ∧ Ex H H') ⟨_, rfl, e1⟩ (fun i σ' H' _ ⟨_, _, e⟩ => Evl.sq_of (e _ _ hna)) (fun i x σ' H' hx ⟨o, eσ, e⟩ => ?_) fun σ' H' ⟨_, _, e⟩ => k H' e⟩
      subst eσ
      rw [List.getElem?_map] at hx
      cases hy : nms[i]? with
      | none => rw [hy] at hx; cases hx
      | some y =>
      rw [hy] at hx
      cases hx
      obtain ⟨r, hr1, hr2, rfl⟩ := kids_mem (perm.mem_iff.mp (List.mem_of_getElem? hy))
      obtain ⟨d', hd', hrows⟩ := hls r hr1 hr2
      cases n with
      | zero => exact hv.elim
      | succ n =>
      obtain ⟨da, es, rfl, _, hda, _, pr⟩ := id hv
      obtain ⟨vd, hvd, hrd⟩ := rep_entry pr hd'
      refine ⟨_, rfl, _, rfl, ?_⟩
      refine ev_get (Evl.ev_var rfl) (Evl.ev_var rfl) (.inl (e _ _ hda)) hvd _ (Ex.refl _) _ fun H2 e2 => ?_
      refine ev_place (Evl.ev_var rfl) (hpl.ex (e.trans e2)) (by omega) (Evl.ev_var rfl) _ (Ex.refl _) _ fun v3 H3 e3 hp3 => ?_
      have e4 := e.trans (e2.trans e3)
      exact ⟨p, vd, v3, n, _, d', fl, z, S', r, q + 1, rfl, hS.ex e4, hz, hr1, rep_ex e4 hrd, hrows, hp3, by omega, fun H5 e5 => ⟨_, rfl, e4.trans e5⟩⟩
end
end Pk

namespace Pk
open PySem PySem.Spec PyProof.Rows L2 Ssb
open Evl (Ex Ev EvT EvL EvA EvU)
/-! ### check_row, check_rows, check -/
theorem flD_cho {H : Hp} {n : Nat} {S : Addr → Prop} {f : Fl} {q : Addr} (h : Rep H n S (flD f) (.ref q)) : ChoAt H q (f.map fun p => (p.1, p.2.map V.str)) := by
  cases n with
  | zero => exact h.elim
  | succ n =>
  obtain ⟨a, es, e, _, ha, _, pr⟩ := h
  cases e
  refine ⟨es, ha, ?_⟩
  have key : ∀ {f : Fl} {es : List (Key × V)}, Paired (fun (q' : Str × D) (e : Key × V) => e.1 = Sum.inr q'.1 ∧ Rep H n (fun b => S b ∧ b ≠ q) q'.2 e.2) (f.map fun p => (p.1, D.tup (p.2.map .str))) es →
      Paired (fun (q' : Str × List V) (e : Key × V) => e.1 = Sum.inr q'.1 ∧ ∃ t, e.2 = .ref t ∧ H t = some (.tup q'.2)) (f.map fun p => (p.1, p.2.map V.str)) es := by
    intro f
    induction f with
    | nil => intro es p; cases p; exact .nil
    | cons x f ih =>
      intro es p
      rw [List.map_cons] at p
      cases p with
      | cons h t =>
        refine .cons ⟨h.1, ?_⟩ (ih t)
        exact rep_words h.2
  exact key pr
def okRow (s : Sh) (m : Nat) (r : Ro) (row : D) (id : Int) : Prop := ∃ l fs ls, row = .dic l ∧ l.length = 3 ∧ l.lookup ("id" : Str) = some (.int id) ∧ 0 ≤ id ∧ id ≤ 1000000 ∧
      l.lookup ("fields" : Str) = some (.dic fs) ∧ okFs r.2.2 fs ∧ l.lookup ("lists" : Str) = some (.dic ls) ∧ ls.length = (kids s (some r.1)).length ∧ ∀ r' ∈ rowsS s, r'.2.1 = some r.1 → ∃ d', ls.lookup r'.1 = some d' ∧ okRows s m r' d'
theorem okFs_fits {f : Fl} {c : List (Str × D)} (hf : okFl f) (h : okFs f c) : fits c (f.map fun p => (p.1, p.2.map V.str)) := by
  refine ⟨by rw [List.length_map]; exact h.1, by rw [List.length_map]; have := hf.1; omega, fun q hq => ?_⟩
  obtain ⟨p, hp, rfl⟩ := List.mem_map.mp hq
  refine ⟨fun x hx => ?_, ?_⟩
  · obtain ⟨y, _, rfl⟩ := List.mem_map.mp hx
    exact .inl ⟨y, rfl⟩
  · obtain ⟨x, h1, h2⟩ := h.2 p hp
    exact ⟨_, h1, List.mem_map.mpr ⟨x, h2, rfl⟩⟩
def idE (ids : List Int) : List (Key × V) := ids.map fun i => (Sum.inl i, V.bl true)
theorem idE_no : ∀ {ids : List Int} {i : Int}, i ∉ ids → valV (idE ids) (Sum.inl i : Key) = none
  | [], _, _ => rfl
  | j :: ids, i, h => by
    show valV ((Sum.inl j, V.bl true) :: idE ids) _ = none
    rw [vV_cons, if_neg fun z => h (by rw [Sum.inl.inj z]; exact List.mem_cons_self)]
    exact idE_no fun z => h (List.mem_cons_of_mem _ z)
section
variable {P : Program} {w : World} {K : PySem.W.Frag} {mg : Str → Option Value} {base : Heap} {C_Shape : Addr}
def spCx (C : Addr) (m : Nat) : Sp := fun vs H Q _ => ∃ (p er : Addr) (v pl : V) (n : Nat) (S : Addr → Prop) (d : D) (fl : List Str) (s : Sh) (S' : Addr → Prop) (r : Ro) (q : Nat) (ids : List Int) (id : Int), vs = [.ref p, .str r.1, v, .ref er, pl] ∧ ShapeAt C H p fl s S' ∧ okSh s ∧ r ∈ rowsS s ∧ Rep H n S d v ∧ okRow s m r d id ∧ H er = some (.dK (idE ids)) ∧ id ∉ ids ∧ PlAt H pl q ∧ q + 10 * m ≤ 796 ∧ ∀ H', Ex H H' → Q .non H'
theorem ok_check_row (T : Txt K mg C_Shape) (R : Prg K mg C_Shape) {m c : Nat} (hc : 3 ≤ c) (G0 : ∃ f fd, Fn P w K mg base "check_lists" c ["shape", "lists", "names", "place"] (spCl C_Shape m) f fd) : ∃ f fd, Fn P w K mg base "check_row" (c + 1) ["shape", "name", "row", "earlier", "here"] (spCx C_Shape m) f fd := by
  obtain ⟨_, _, G_check_lists⟩ := G0
  obtain ⟨_, _, G_has_names⟩ := ok_has_names (P := P) (w := w) (base := base) T R
  obtain ⟨_, _, G_is_integer⟩ := ok_is_integer (P := P) (w := w) (base := base) T R
  obtain ⟨_, _, G_check_words⟩ := ok_check_words (P := P) (w := w) (base := base) T R
  obtain ⟨_, _, G_Shape_fields⟩ := ok_Shape_fields (P := P) (w := w) (base := base) T R
  obtain ⟨_, _, G_Shape_inner⟩ := ok_Shape_inner (P := P) (w := w) (base := base) T R
  obtain ⟨tG, gG⟩ := T.g_GREATEST_ID
  obtain ⟨f, fd, at_, F, kp⟩ := R.check_row
  refine ⟨f, fd, F.ok sc_check_row (fun vs H Q E h => ?_) (fun cdv A outer s H vs Q E hr h => ?_), at_, kp, F.binds (fun _ _ _ _ _ _ us hl => match us, hl with | [_, _, _, _, _], _ => rfl)⟩
  · obtain ⟨p, er, v, pl, n, S, d, fl, s, S', r, q, ids, id, rfl, _⟩ := h; rfl
  · obtain ⟨p, er, v, pl, n, S, d, fl, z, S', r, q, ids, id, rfl, hS, hz, hr1, hv, ⟨l, fs, ls, rfl, hl3, hid, i0, i1, hfs, okf, hls, lls, okl⟩, her, nid, hpl, hq, k⟩ := h
    obtain ⟨dx, ft, tb, hp, hft, htb⟩ := _root_.id hS
    obtain ⟨_, rok⟩ := okSh_rows hz
    cases n with
    | zero => exact hv.elim
    | succ n =>
    obtain ⟨dv, des, rfl, _, hdv, _, dpr⟩ := _root_.id hv
    obtain ⟨vi, hvi, hri⟩ := rep_entry dpr hid
    obtain ⟨vf, hvf, hrf⟩ := rep_entry dpr hfs
    obtain ⟨vl, hvl, hrl⟩ := rep_entry dpr hls
    have evi : vi = .int id := by
      cases n with
      | zero => exact hri.elim
      | succ n => exact hri
    subst evi
    refine ⟨_, (pss_cons (ps_if (pt_not (pt_val (pcl G_has_names hr (pa_cons (pv 2) (pa_cons (pe_lst (pa_cons pe_str (pa_cons pe_str (pa_cons pe_str pa_nil)))) pa_nil))))) pss_never pss_nil)
  (pss_cons (ps_if (PW.pt (pw_or (pt_not (pt_val (pcl G_is_integer hr (pa_cons (pe_dget (hu_of hr) (pv 2) pe_str (fun _ _ => rfl)) (pa_cons pe_int (pa_cons (pe_glob (v := .int 1000000) rfl gG ⟨_, rfl⟩) pa_nil)))))) (pw_or1 (pt_cmp (pc_din (hu_of hr) (pe_dget (hu_of hr) (pv 2) pe_str (fun _ _ => rfl)) (pv 3)))))) pss_never pss_nil)
  (pss_cons (ps_expr (pcl G_check_words hr (pa_cons (pe_dget (hu_of hr) (pv 2) pe_str (fun _ _ => rfl)) (pa_cons (pmt (pv 0) T.cl_Shape G_Shape_fields hr (pa_cons (pv 1) pa_nil)) (pa_cons (pe_op (r := rCatT K) op_catT (pv 4) (pe_tup (pa_cons pe_str pa_nil))) pa_nil)))))
  (pss_one (ps_expr (pcl G_check_lists hr (pa_cons (pv 0) (pa_cons (pe_dget (hu_of hr) (pv 2) pe_str (fun _ _ => rfl)) (pa_cons (pmt (pv 0) T.cl_Shape G_Shape_inner hr (pa_cons (pv 1) pa_nil)) (pa_cons (pe_op (r := rCatT K) op_catT (pv 4) (pe_tup (pa_cons pe_str pa_nil))) pa_nil)))))))))), ?_⟩
    refine Evl.q_when (b := false) (Evl.et_not (a := true) (Evl.et_B (ev_fnL (Evl.ev_var rfl) (Evl.el_lst (Evl.ea_cons Evl.ev_c (Evl.ea_cons Evl.ev_c (Evl.ea_cons Evl.ev_c Evl.ea_nil))) (by show 3 ≤ 100000; decide)) fun a H4 e4 ha Q q => ⟨⟨_, a, n + 1, S, l, ["id", "fields", "lists"], rfl, rep_ex e4 hv, Evl.sq_of ha, by show 3 ≤ 1000; decide, hl3, fun z hz => ?_⟩, q⟩))) (fun h => nomatch h) fun _ H1 e1 => ?_
    · rcases List.mem_cons.mp hz with rfl | hz
      · rw [hid]; rfl
      · rcases List.mem_cons.mp hz with rfl | hz
        · rw [hfs]; rfl
        · rw [List.mem_singleton.mp hz, hls]; rfl
    refine Evl.q_when (b := false) (Evl.et_or (a := false) (b := false) (Evl.et_not (a := true) (Evl.et_B (spV_ev (Evl.ea_cons (ev_get (Evl.ev_var rfl) Evl.ev_c (.inl (e1 _ _ hdv)) hvi) (Evl.ea_cons Evl.ev_c (Evl.ea_cons Evl.ev_c Evl.ea_nil))) fun H2 e2 => ⟨id, 0, 1000000, rfl, i0, i1⟩))) fun _ => Evl.et_test fun H2 e2 Q' q' => ?_) (fun h => nomatch h) fun _ H2 e2 => ?_
    · exact ev_get (Evl.ev_var rfl) Evl.ev_c (.inl (e1 _ _ hdv)) hvi H2 e2 _ fun H3 e3 => ⟨_, rfl, er, none, rfl, .inl ⟨idE ids, Sum.inl id, .inl ((e1.trans (e2.trans e3)) _ _ her), rfl, (idE_no nid).symm⟩, q' H3 e3⟩
    have e02 := e1.trans e2
    -- check_words
    refine ev_get (Evl.ev_var rfl) Evl.ev_c (.inl (e02 _ _ hdv)) hvf _ (Ex.refl _) _ fun H3 e3 => ?_
    have e03 := e02.trans e3
    refine ⟨_, rfl, p, dx, _, rfl, e03 _ _ hp, shF_no _ _ (by decide +kernel) (by decide +kernel), _, rfl, p, fl, z, S', r, rfl, hS.ex e03, hz, hr1, fun H4 q4 e4 hq4 => ?_⟩
    have e04 := e03.trans e4
    refine ev_place (Evl.ev_var rfl) (hpl.ex e04) (by omega) Evl.ev_c _ (Ex.refl _) _ fun v5 H5 e5 hp5 => ?_
    have e05 := e04.trans e5
    refine ⟨⟨vf, v5, q4, n, _, fs, r.2.2.map fun p => (p.1, p.2.map V.str), rfl, rep_ex e05 hrf, flD_cho (rep_ex e5 hq4), okFs_fits (rok r hr1).2 okf⟩, fun H6 e6 => ?_⟩
    have e06 := e05.trans e6
    -- check_lists
    refine ⟨_, rfl, ?_⟩
    refine ev_get (Evl.ev_var rfl) Evl.ev_c (.inl (e06 _ _ hdv)) hvl _ (Ex.refl _) _ fun H7 e7 => ?_
    have e07 := e06.trans e7
    refine ⟨_, rfl, p, dx, _, rfl, e07 _ _ hp, shF_no _ _ (by decide +kernel) (by decide +kernel), _, rfl, p, fl, z, S', r.1, rfl, hS.ex e07, hz, List.mem_map.mpr ⟨r, hr1, rfl⟩, fun H8 q8 nms e8 nq8 hq8 perm _ => ?_⟩
    have e08 := e07.trans e8
    refine ev_place (Evl.ev_var rfl) (hpl.ex e08) (by omega) Evl.ev_c _ (Ex.refl _) _ fun v9 H9 e9 hp9 => ?_
    have e09 := e08.trans e9
    exact ⟨p, q8, vl, v9, n, _, ls, fl, z, S', some r.1, nms, q + 1, rfl, hS.ex e09, hz, rep_ex e09 hrl, ⟨lls, okl⟩, e9 _ _ hq8, perm, hp9, by omega, fun H10 e10 => k H10 (e09.trans e10)⟩
theorem ok_check_rows0 (T : Txt K mg C_Shape) (R : Prg K mg C_Shape) : ∃ f fd, Fn P w K mg base "check_rows" 1 ["shape", "name", "rows", "place"] (spCr C_Shape 0) f fd := by
  obtain ⟨f, fd, at_, F, kp⟩ := R.check_rows
  refine ⟨f, fd, F.ok sc_check_rows (fun vs H Q E h => ?_) (fun cdv A outer s H vs Q E hr h => ?_), at_, kp, F.binds (fun _ _ _ _ _ _ us hl => match us, hl with | [_, _, _, _], _ => rfl)⟩
  · obtain ⟨p, v, pl, n, S, d, fl, s, S', r, q, rfl, _⟩ := h; rfl
  · obtain ⟨p, v, pl, n, S, d, fl, s, S', r, q, rfl, _, _, _, _, h, _⟩ := h; exact h.elim
theorem ok_check_rows (T : Txt K mg C_Shape) (R : Prg K mg C_Shape) {m c : Nat} (G0 : ∃ f fd, Fn P w K mg base "check_row" c ["shape", "name", "row", "earlier", "here"] (spCx C_Shape m) f fd) : ∃ f fd, Fn P w K mg base "check_rows" (c + 1) ["shape", "name", "rows", "place"] (spCr C_Shape (m + 1)) f fd := by
  obtain ⟨_, _, G_check_row⟩ := G0
  obtain ⟨f, fd, at_, F, kp⟩ := R.check_rows
  refine ⟨f, fd, F.ok sc_check_rows (fun vs H Q E h => ?_) (fun cdv A outer s H vs Q E hr h => ?_), at_, kp, F.binds (fun _ _ _ _ _ _ us hl => match us, hl with | [_, _, _, _], _ => rfl)⟩
  · obtain ⟨p, v, pl, n, S, d, fl, s, S', r, q, rfl, _⟩ := h; rfl
  · obtain ⟨p, v, pl, n, S, d, fl, z, S', r, q, rfl, hS, hz, hr1, hv, ⟨rs, ids, rfl, ndi, lrs, prs⟩, hpl, hq, k⟩ := h
    cases n with
    | zero => exact hv.elim
    | succ n =>
    obtain ⟨ra, xs, rfl, _, hra, _, pp⟩ := _root_.id hv
    have lx := pair_len pp
    have li := pair_len prs
    refine ⟨_, (pss_cons (ps_if (pt_not (pt_val (pe_callB (r := rIsi K) call_isi (by rfl) T.isinstance (by decide +kernel) (pa_cons (pv 2) (pa_cons (pe_bltn (v := .ty "list") (by rfl) T.list boot_list rfl) pa_nil))))) pss_never pss_nil)
  (pss_cons (ps_set (i := 4) sc_check_rows.nd rfl (Or.inl rfl) pe_dnewK)
  (pss_one (ps_for PassesOwn.never rfl (pi_enum (by rfl) T.enumerate (pa_cons (pv 2) pa_nil)) (show PG _ _ (gTup K 2 _) from pg_tup (n := 2) rfl (pgs_cons (pg_name (i := 5) sc_check_rows.nd rfl (Or.inl rfl)) (pgs_cons (pg_name (i := 6) sc_check_rows.nd rfl (Or.inl rfl)) pgs_nil)))
    (pss_cons (ps_expr (pcl G_check_row hr (pa_cons (pv 0) (pa_cons (pv 1) (pa_cons (pv 6) (pa_cons (pv 4) (pa_cons (pe_op (r := rCatT K) op_catT (pv 3) (pe_tup (pa_cons (pv 5) pa_nil))) pa_nil)))))))
  (pss_one (ps_dput (hu_of hr) (pv 4) (pe_dget (hu_of hr) (pv 6) pe_str (fun _ _ => rfl)) pe_bl rfl))))))), ?_⟩
    refine Evl.q_when (b := false) (Evl.et_not (a := true) (Evl.et_B (ev_isi (Evl.ev_var rfl) (fun H1 e1 => .base (.lst (e1 _ _ hra))) (kit_ty (by decide +kernel))))) (fun h => nomatch h) fun _ H1 e1 => ?_
    intro er her
    have e2 : Ex H1 (upd H1 er (.dK [])) := Ex.new her
    refine ⟨_, rfl, ra, xs, rfl, Evl.sq_of (e2 _ _ (e1 _ _ hra)), for_it walk_enum (fun i σ' H' => (∃ o5 o6, σ' = [some (.ref p), some (.str r.1), some (.ref ra), some pl, some (.ref er), o5, o6]) ∧ Ex H1 H' ∧ H' er = some (.dK (idE (ids.take i)))) ⟨⟨_, _, rfl⟩, e2, upd_same⟩ (fun i σ' H' _ pv => Evl.sq_of (pv.2.1 _ _ (e1 _ _ hra))) (fun i x σ' H' H'' hi pv y => ?_) fun σ' H' pv => k H' (e1.trans pv.2.1)⟩
    obtain ⟨⟨o5, o6, rfl⟩, e3, hes⟩ := pv
    obtain ⟨tp, x1, x2, rfl, ht, rfl, e, hx2⟩ := y
    cases e
    obtain ⟨row, hrow, hrr⟩ := pair_back pp hx2
    obtain ⟨id, hid, okr⟩ := pair_at prs hrow
    have e4 : Ex H1 (upd H' tp (.tup [.int (i : Nat), x2])) := e3.trans (Ex.new ht)
    have hes4 : (upd H' tp (.tup [.int (i : Nat), x2])) er = some (.dK (idE (ids.take i))) := (Ex.new ht) _ _ hes
    refine ⟨tp, _, rfl, Evl.st_of upd_same, rfl, _, _, rfl, _, _, rfl, rfl, ?_⟩
    generalize (upd H' tp (.tup [.int (i : Nat), x2])) = H4 at e4 hes4 ⊢
    have e04 := e1.trans e4
    have tk : ids.take (i + 1) = ids.take i ++ [id] := by rw [List.take_add_one, hid]; rfl
    have nid : id ∉ ids.take i := fun hm => by
      have := (List.nodup_append.mp (by rw [← tk]; exact List.Sublist.nodup (List.take_sublist _ _) ndi : (ids.take i ++ [id]).Nodup)).2.2
      exact this id hm id (List.mem_singleton.mpr rfl) rfl
    refine ⟨_, rfl, _, rfl, _, rfl, _, rfl, ?_⟩
    refine ev_place (Evl.ev_var rfl) (hpl.ex e04) (by omega) (Evl.ev_var rfl) _ (Ex.refl _) _ fun v5 H5 e5 hp5 => ?_
    have e05 := e04.trans e5
    refine ⟨p, er, x2, v5, n, _, row, fl, z, S', r, q + 1, ids.take i, id, rfl, hS.ex e05, hz, hr1, rep_ex e05 hrr, okr, e5 _ _ hes4, nid, hp5, by omega, fun H6 e6 => ?_⟩
    have e06 := e05.trans e6
    obtain ⟨l, fs, ls, rfl, _, hidl, _⟩ := okr
    cases n with
    | zero => exact hrr.elim
    | succ n =>
    obtain ⟨rv, res, rfl, _, hrv, _, rpr⟩ := _root_.id hrr
    obtain ⟨vi, hvi, hri⟩ := rep_entry rpr hidl
    have evi : vi = .int id := by
      cases n with
      | zero => exact hri.elim
      | succ n => exact hri
    subst evi
    refine ⟨_, rfl, ?_⟩
    refine ev_get (Evl.ev_var rfl) Evl.ev_c (.inl (e06 _ _ hrv)) hvi _ (Ex.refl _) _ fun H7 e7 => ?_
    have hes7 : H7 er = some (.dK (idE (ids.take i))) := e7 _ _ (e6 _ _ (e5 _ _ hes4))
    refine ⟨er, _, rfl, .inl ⟨idE (ids.take i), Sum.inl id, hes7, rfl, ?_, rfl⟩, ⟨_, _, rfl⟩, ?_, ?_⟩
    · unfold idE; rw [List.length_map, List.length_take]; exact Evl.sz_lt (by omega)
    · exact Ex.mut (e4.trans (e5.trans (e6.trans e7))) her
    · rw [upd_same, putK_new _ (idE_no nid), tk]
      unfold idE; rw [List.map_append]; rfl
/-- the whole tree of checks -/
theorem ok_check_lists2 (T : Txt K mg C_Shape) (R : Prg K mg C_Shape) : ∃ f fd, Fn P w K mg base "check_lists" 11 ["shape", "lists", "names", "place"] (spCl C_Shape 2) f fd :=
  ok_check_lists T R (ok_check_rows T R (ok_check_row T R (by decide) (ok_check_lists T R (ok_check_rows T R (ok_check_row T R (by decide) (ok_check_lists T R (ok_check_rows0 T R)))))))
/-- data of a shape -/
def okD (fl : List Str) (s : Sh) (d : D) : Prop := ∃ l fgs ls, d = .dic l ∧ l.length = 2 ∧ l.lookup ("flags" : Str) = some (.dic fgs) ∧ fgs.length = fl.length ∧ (∀ x ∈ fl, ∃ b, fgs.lookup x = some (.bl b)) ∧ l.lookup ("lists" : Str) = some (.dic ls) ∧ okLs s 2 none ls ∧ wfR 3 d ∧ rowsN 3 d ≤ 300
def spCk (C : Addr) : Sp := fun vs H Q _ => ∃ (p : Addr) (v : V) (n : Nat) (S : Addr → Prop) (d : D) (fl : List Str) (s : Sh) (S' : Addr → Prop), vs = [.ref p, v] ∧ ShapeAt C H p fl s S' ∧ fl.length ≤ 2 ∧ fl.Nodup ∧ okSh s ∧ Rep H n S d v ∧ okD fl s d ∧ ∀ H', Ex H H' → Q .non H'
def flE (fl : List Str) : List (Str × List V) := fl.map fun x => (x, [V.bl true, V.bl false])
theorem cho_no {H : Hp} {fl : List Str} {es : List (Key × V)} {x : Str} : Paired (fun (q : Str × List V) (e : Key × V) => e.1 = Sum.inr q.1 ∧ ∃ t, e.2 = .ref t ∧ H t = some (.tup q.2)) (flE fl) es → x ∉ fl → valV es (Sum.inr x : Key) = none := by
  intro p
  generalize hc : flE fl = c at p
  induction p generalizing fl with
  | nil => intro _; rfl
  | @cons a b c es h t ih =>
    intro hx
    cases fl with
    | nil => cases hc
    | cons y fl =>
      unfold flE at hc
      rw [List.map_cons, List.cons.injEq] at hc
      rw [vV_cons, if_neg, ih hc.2 fun z => hx (List.mem_cons_of_mem _ z)]
      rw [h.1, ← hc.1]
      intro z
      exact hx (by rw [← Sum.inr.inj z]; exact List.mem_cons_self)
theorem ok_check (T : Txt K mg C_Shape) (R : Prg K mg C_Shape) : ∃ f fd, Fn P w K mg base "check" 13 ["shape", "data"] (spCk C_Shape) f fd := by
  obtain ⟨_, _, G_check_lists⟩ := ok_check_lists2 (P := P) (w := w) (base := base) T R
  obtain ⟨_, _, G_has_names⟩ := ok_has_names (P := P) (w := w) (base := base) T R
  obtain ⟨_, _, G_check_words⟩ := ok_check_words (P := P) (w := w) (base := base) T R
  obtain ⟨_, _, G_rows_in⟩ := ok_rows_in (P := P) (w := w) (base := base) T R 3
  obtain ⟨_, _, G_Shape_outer⟩ := ok_Shape_outer (P := P) (w := w) (base := base) T R
  obtain ⟨tG, gG⟩ := T.g_MOST_ROWS
  obtain ⟨f, fd, at_, F, kp⟩ := R.check
  refine ⟨f, fd, F.ok sc_check (fun vs H Q E h => ?_) (fun cdv A outer s H vs Q E hr h => ?_), at_, kp, F.binds (fun _ _ _ _ _ _ us hl => match us, hl with | [_, _], _ => rfl)⟩
  · obtain ⟨p, v, n, S, d, fl, s, S', rfl, _⟩ := h; rfl
  · obtain ⟨p, v, n, S, d, fl, z, S', rfl, hS, fl2, fln, hz, hv, ⟨l, fgs, ls, rfl, hl2, hfg, lfg, okg, hls, okl, wf, few⟩, k⟩ := h
    obtain ⟨dx, ft, tb, hp, hft, htb⟩ := id hS
    cases n with
    | zero => exact hv.elim
    | succ n =>
    obtain ⟨dv, des, rfl, _, hdv, _, dpr⟩ := id hv
    obtain ⟨vf, hvf, hrf⟩ := rep_entry dpr hfg
    obtain ⟨vl, hvl, hrl⟩ := rep_entry dpr hls
    refine ⟨_, (pss_cons (ps_if (pt_not (pt_val (pcl G_has_names hr (pa_cons (pv 1) (pa_cons (pe_lst (pa_cons pe_str (pa_cons pe_str pa_nil))) pa_nil))))) pss_never pss_nil)
  (pss_cons (ps_expr (pcl G_check_words hr (pa_cons (pe_dget (hu_of hr) (pv 1) pe_str (fun _ _ => rfl)) (pa_cons (pe_dc (own := [("flag", 2)]) rfl sc_check.nd (show PI _ _ _ (iTup K _) from pi_tup (show PE _ _ (tFld K _ _) from pe_fld (pv 0) rfl)) (blkOk_by (own := [("flag", 2)]) (N := ["shape", "data", "flag"]) (sc := defScope s_check) (by decide +kernel)) (fun _ _ _ _ _ => (pg_name (i := 2) sc_check.nd rfl (Or.inl rfl))) (fun _ _ _ _ _ => pts_nil) (fun _ _ _ _ _ => (pv 2)) (fun _ _ _ _ _ => (pe_tup (pa_cons pe_bl (pa_cons pe_bl pa_nil))))) (pa_cons (pe_tup (pa_cons pe_str pa_nil)) pa_nil)))))
  (pss_cons (ps_expr (pcl G_check_lists hr (pa_cons (pv 0) (pa_cons (pe_dget (hu_of hr) (pv 1) pe_str (fun _ _ => rfl)) (pa_cons (pmt0 (pv 0) T.cl_Shape G_Shape_outer hr) (pa_cons (pe_tup (pa_cons pe_str pa_nil)) pa_nil))))))
  (pss_one (ps_if (pt_cmpR op_gt (pcl G_rows_in hr (pa_cons (pv 1) pa_nil)) (pe_glob (v := .int 300) rfl gG ⟨_, rfl⟩) (nomark _)) pss_never pss_nil))))), ?_⟩
    refine Evl.q_when (b := false) (Evl.et_not (a := true) (Evl.et_B (ev_fnL (Evl.ev_var rfl) (Evl.el_lst (Evl.ea_cons Evl.ev_c (Evl.ea_cons Evl.ev_c Evl.ea_nil)) (by show 2 ≤ 100000; decide)) fun a H4 e4 ha Q q => ⟨⟨_, a, n + 1, S, l, ["flags", "lists"], rfl, rep_ex e4 hv, Evl.sq_of ha, by show 2 ≤ 1000; decide, hl2, fun z hz => ?_⟩, q⟩))) (fun h => nomatch h) fun _ H1 e1 => ?_
    · rcases List.mem_cons.mp hz with rfl | hz
      · rw [hfg]; rfl
      · rw [List.mem_singleton.mp hz, hls]; rfl
    -- check_words
    refine ev_get (Evl.ev_var rfl) Evl.ev_c (.inl (e1 _ _ hdv)) hvf _ (Ex.refl _) _ fun H3 e3 => ?_
    have e03 := e1.trans e3
    refine ⟨_, rfl, p, C_Shape, dx, _, _, rfl, e03 _ _ hp, T.cl_Shape, T.no_Shape_flags, shF_flags _ _, ft, rfl, ⟨_, Evl.st_of (e03 _ _ hft)⟩, fun Dd hD => ?_⟩
    refine dc_tup (xs := fl.map V.str) (fun i H' => Ex H3 H' ∧ ∃ es, H' Dd = some (.dK es) ∧ Paired (fun (q : Str × List V) (e : Key × V) => e.1 = Sum.inr q.1 ∧ ∃ t, e.2 = .ref t ∧ H' t = some (.tup q.2)) (flE (fl.take i)) es) ⟨Ex.new hD, [], upd_same, .nil⟩ (fun i H' _ pv => Evl.st_of (pv.1 _ _ (e03 _ _ hft))) (fun i x H' hx pv => ?_) fun H4 pv => ?_
    · obtain ⟨e4, es, hes, pes⟩ := pv
      rw [List.getElem?_map] at hx
      cases hy : fl[i]? with
      | none => rw [hy] at hx; cases hx
      | some y =>
      rw [hy] at hx
      cases hx
      refine ⟨rfl, ?_⟩
      refine yes_go ?_
      refine ⟨_, rfl, (by show 2 ≤ sizeLine; decide), fun tp htp => ?_⟩
      have nDt : Dd ≠ tp := fun e => by rw [← e, hes] at htp; cases htp
      have tk : fl.take (i + 1) = fl.take i ++ [y] := by rw [List.take_add_one, hy]; rfl
      have nin : y ∉ fl.take i := fun hm => (List.nodup_append.mp (by rw [← tk]; exact List.Sublist.nodup (List.take_sublist _ _) fln : (fl.take i ++ [y]).Nodup)).2.2 y hm y (List.mem_singleton.mpr rfl) rfl
      have nv := cho_no pes nin
      have les : es.length ≤ 2 := by
        rw [← pair_len pes]; unfold flE; rw [List.length_map, List.length_take]; omega
      refine ⟨es, Sum.inr y, rfl, by rw [upd_ne nDt]; exact hes, Evl.sz_lt (by omega), Ex.mut (e4.trans (Ex.new htp)) hD, es ++ [(Sum.inr y, .ref tp)], by rw [upd_same, putK_new _ nv], ?_⟩
      have et : flE (fl.take (i + 1)) = flE (fl.take i) ++ [(y, [V.bl true, V.bl false])] := by rw [tk]; unfold flE; rw [List.map_append]; rfl
      rw [et]
      have keep : ∀ t xs, H' t = some (.tup xs) → (upd (upd H' tp (.tup [V.bl true, V.bl false])) Dd (.dK (putK es (Sum.inr y) (.ref tp)))) t = some (.tup xs) := fun t xs ht => by
        have nt : t ≠ Dd := fun e => by rw [e, hes] at ht; cases ht
        rw [upd_ne nt]
        exact Ex.new htp _ _ ht
      refine pair_snoc (pair_imp pes fun a b h => ⟨h.1, h.2.choose, h.2.choose_spec.1, keep _ _ h.2.choose_spec.2⟩) ⟨rfl, tp, rfl, ?_⟩
      rw [upd_ne (Ne.symm nDt), upd_same]
    obtain ⟨e4, es, hes, pes⟩ := pv
    rw [List.length_map, List.take_of_length_le (Nat.le_refl _)] at pes
    have e04 := e03.trans e4
    refine ⟨(by show 1 ≤ sizeLine; decide), fun tp htp => ?_⟩
    have e05 := e04.trans (Ex.new (o := .tup [V.str "flags"]) htp)
    refine ⟨⟨vf, .ref tp, Dd, n, _, fgs, flE fl, rfl, rep_ex e05 hrf, ChoAt.ex (Ex.new htp) ⟨es, hes, pes⟩, ⟨by unfold flE; rw [List.length_map]; exact lfg, by unfold flE; rw [List.length_map]; omega, fun q hq => ?_⟩⟩, fun H6 e6 => ?_⟩
    · obtain ⟨x, hx, rfl⟩ := List.mem_map.mp hq
      refine ⟨fun y hy => ?_, ?_⟩
      · rcases List.mem_cons.mp hy with rfl | hy
        · exact .inr ⟨_, rfl⟩
        · exact .inr ⟨_, List.mem_singleton.mp hy⟩
      · obtain ⟨b, hb⟩ := okg x hx
        refine ⟨_, hb, ?_⟩
        cases b <;> simp [dV]
    have e06 := e05.trans e6
    -- check_lists
    refine ⟨_, rfl, ?_⟩
    refine ev_get (Evl.ev_var rfl) Evl.ev_c (.inl (e06 _ _ hdv)) hvl _ (Ex.refl _) _ fun H7 e7 => ?_
    have e07 := e06.trans e7
    refine ⟨_, rfl, p, dx, _, rfl, e07 _ _ hp, shF_no _ _ (by decide +kernel) (by decide +kernel), p, fl, z, S', rfl, hS.ex e07, hz, fun H8 q8 nms e8 nq8 hq8 perm _ => ?_⟩
    have e08 := e07.trans e8
    refine ⟨(by show 1 ≤ sizeLine; decide), fun tp9 htp9 => ?_⟩
    have e9 : Ex H8 (upd H8 tp9 (.tup [V.str "lists"])) := Ex.new htp9
    have e09 := e08.trans e9
    refine ⟨p, q8, vl, .ref tp9, n, _, ls, fl, z, S', none, nms, 1, rfl, hS.ex e09, hz, rep_ex e09 hrl, okl, e9 _ _ hq8, perm, ⟨tp9, _, rfl, upd_same, (fun h => nomatch h), by show 1 ≤ 1; decide⟩, by omega, fun H10 e10 => ?_⟩
    have e010 := e09.trans e10
    refine Evl.s_when (b := false) (Evl.et_is (Evl.et_test (Evl.ev_op (ev_fn (Evl.ea_cons (Evl.ev_var rfl) Evl.ea_nil) fun H4 e4 Q' q' => ⟨.ref dv, n + 1, S, .dic l, rfl, rep_ex (e010.trans e4) hv, wf, q'⟩) Evl.ev_c Evl.rv_I0)) (decide_eq_false (by omega))) (fun h => nomatch h) fun _ H11 e11 => k H11 (e010.trans e11)
end
end Pk

namespace Pk
open PySem PySem.Spec PyProof.Rows L2 Ssb
open Evl (Ex Ev EvT EvL EvA EvU)
/-! ### the stream -/
def StAt (H : Hp) (S c : Addr) : Prop := S ≠ c ∧ ∃ (k : Int) (cs : List Int), H S = some (.lst [.ref c, .int k]) ∧ H c = some (.lst (cs.map V.int)) ∧ 0 < cs.length ∧ cs.length ≤ 63
/-- from H to H': the stream moved, all else stands -/
structure Mv (S c : Addr) (H H' : Hp) : Prop where
  a : StAt H S c
  z : StAt H' S c
  fr : ∀ b o, b ≠ S → b ≠ c → H b = some o → H' b = some o
theorem StAt.ex {S c : Addr} {H H' : Hp} (e : Ex H H') (h : StAt H S c) : StAt H' S c := by
  obtain ⟨n, k, cs, h1, h2, h3⟩ := h; exact ⟨n, k, cs, e _ _ h1, e _ _ h2, h3⟩
theorem Mv.ex {S c : Addr} {H H' : Hp} (a : StAt H S c) (e : Ex H H') : Mv S c H H' := ⟨a, a.ex e, fun b o _ _ h => e b o h⟩
theorem Mv.trans {S c : Addr} {H H' H2 : Hp} (m : Mv S c H H') (m2 : Mv S c H' H2) : Mv S c H H2 := ⟨m.a, m2.z, fun b o n1 n2 h => m2.fr b o n1 n2 (m.fr b o n1 n2 h)⟩
theorem Mv.tx {S c : Addr} {H H' H2 : Hp} (m : Mv S c H H') (e : Ex H' H2) : Mv S c H H2 := m.trans (.ex m.z e)
theorem StAt.someS {S c : Addr} {H : Hp} (a : StAt H S c) {b : Addr} (h : H b = none) : b ≠ S ∧ b ≠ c := by
  obtain ⟨n, k, cs, h1, h2, h3⟩ := a
  exact ⟨fun e => (by rw [e, h1] at h; cases h), fun e => (by rw [e, h2] at h; cases h)⟩
theorem Mv.back {S c : Addr} {H H' : Hp} (m : Mv S c H H') {b : Addr} (h : H' b = none) : H b = none := by
  obtain ⟨n1, n2⟩ := m.z.someS h
  cases e : H b with
  | none => rfl
  | some o => rw [m.fr b o n1 n2 e] at h; cases h
/-- an object that H does not know may change -/
theorem Mv.mut {S c : Addr} {H H' : Hp} {p : Addr} {o : HO} (m : Mv S c H H') (h : H p = none) : Mv S c H (upd H' p o) := by
  obtain ⟨n1, n2⟩ := m.a.someS h
  obtain ⟨n, k, cs, h1, h2, h3⟩ := m.z
  refine ⟨m.a, ⟨n, k, cs, by rw [upd_ne (Ne.symm n1)]; exact h1, by rw [upd_ne (Ne.symm n2)]; exact h2, h3⟩, fun b o' b1 b2 hb => ?_⟩
  have : b ≠ p := fun e => by rw [e, h] at hb; cases hb
  rw [upd_ne this]
  exact m.fr b o' b1 b2 hb
theorem Mv.new {S c : Addr} {H : Hp} {p : Addr} {o : HO} (a : StAt H S c) (h : H p = none) : Mv S c H (upd H p o) := .ex a (Ex.new h)
theorem rep_mv {S c : Addr} {H H' : Hp} (m : Mv S c H H') {n : Nat} {P : Addr → Prop} {d : D} {v : V} (n1 : ¬ P S) (n2 : ¬ P c) (h : Rep H n P d v) : Rep H' n P d v := by
  obtain ⟨_, k, cs, h1, h2, _⟩ := m.a
  refine rep_to (fun b o hb hp => m.fr b o (fun e => ?_) (fun e => ?_) hb) h
  · rw [e] at hp hb
    rcases hp with hp | ⟨xs, rfl⟩
    · exact n1 hp
    · rw [h1] at hb; cases hb
  · rw [e] at hp hb
    rcases hp with hp | ⟨xs, rfl⟩
    · exact n2 hp
    · rw [h2] at hb; cases hb
theorem Mv.tup {S c : Addr} {H H' : Hp} (m : Mv S c H H') {t : Addr} {xs : List V} (h : H t = some (.tup xs)) : H' t = some (.tup xs) := by
  obtain ⟨_, k, cs, h1, h2, _⟩ := m.a
  exact m.fr t _ (fun e => by rw [e, h1] at h; cases h) (fun e => by rw [e, h2] at h; cases h) h
theorem ev_int1 {te : TE} {σ : L2.St} {H : Hp} {i : Int} (h : Ev te σ H (.int i)) : Ev (tCB (fun xs H Q => (∃ i, xs = [V.int i] ∧ Q (.int i) H) ∨ ∃ k, xs = [V.bl k] ∧ Q (.int (if k then 1 else 0)) H) (tCons te tNil)) σ H (.int i) := fun H1 e Q q => h H1 e _ fun H2 e2 => .inl ⟨i, rfl, q H2 e2⟩
theorem at_get {α : Type} {xs : List α} {i : Int} (h0 : 0 ≤ i) (h1 : i < (xs.length : Int)) : ∃ v, xs[i.toNat]? = some v ∧ atI xs i = some v := by
  have h2 : i.toNat < xs.length := by omega
  refine ⟨xs[i.toNat], List.getElem?_eq_getElem h2, ?_⟩
  have := atI_nat (List.getElem?_eq_getElem h2)
  rw [show ((i.toNat : Nat) : Int) = i by omega] at this
  exact this
theorem shaped_ints (ns : List Int) : SeqAt.shaped (.list (ns.map PyData.int)) = true := by
  have h : PyData.canLayAll0 (ns.map PyData.int) = true ∧ PyData.depthAll (ns.map PyData.int) ≤ 1 := by
    induction ns with
    | nil => exact ⟨by simp [PyData.canLayAll0], by simp [PyData.depthAll]⟩
    | cons n ns ih => exact ⟨by simp [PyData.canLayAll0, PyData.canLay0, ih.1], by have := ih.2; simp [PyData.depthAll, PyData.depth]; omega⟩
  unfold SeqAt.shaped
  have h2 := h.2
  simp only [PyData.canLay0, PyData.depth, h.1, Bool.true_and]
  exact decide_eq_true (by omega)
theorem dp_ints {K : PySem.W.Frag} {H : Hp} {a : Addr} {ns : List Int} (h : SqL K H a (ns.map V.int)) : Dp K H (.ref a) (.list (ns.map PyData.int)) := by
  refine .lst h ?_
  clear h
  induction ns with
  | nil => exact .nil
  | cons n ns ih => exact .cons (.int n) ih
theorem el_lcN {K : PySem.W.Frag} {σ : L2.St} {H : Hp} {te tl : TE} {vs : List Nat} {j : Nat} {f : Nat → V} {xs : List V} (h : EvL tl σ H xs) (hz : xs.length ≤ 100000) (hw : ∀ x, wipe ((wipe σ vs).set j (some x)) vs = wipe σ vs)
    (he : ∀ (i : Nat) (x : V), xs[i]? = some x → ∀ H2, Ex H H2 → Ev te ((wipe σ vs).set j (some x)) H2 (f i)) : EvL (tLc (iList K tl) (gName j) tYes te vs) σ H ((List.range xs.length).map f) := fun H1 e Q q =>
  h H1 e _ fun a H2 ha e2 hx => ⟨a, rfl, ⟨xs, Evl.sq_of hx⟩, fun Dl hD =>
    el_walk (f := f) walk_list hz (fun H3 e3 => Evl.ex_l e3 (Evl.sq_of hx)) hw (fun i x h3 H3 e3 => he i x h3 H3 ((e.trans e2).trans e3)) (fun p H3 hp e3 hl => q p H3 (Evl.fresh_back e2 hp) (e2.trans e3) hl) Dl hD⟩
section
variable {P : Program} {w : World} {K : PySem.W.Frag} {mg : Str → Option Value} {base : Heap} {C_Shape : Addr}
def spStream (K : PySem.W.Frag) : Sp := fun vs H Q _ => ∃ (a : Addr) (ns : List Int), vs = [.ref a] ∧ SqL K H a (ns.map V.int) ∧ ∀ H' S c, StAt H' S c → Q (.ref S) H'
theorem ok__law_stream (T : Txt K mg C_Shape) (R : Prg K mg C_Shape) : ∃ f fd, Fn P w K mg base "_law_stream" 1 ["_law_script"] (spStream K) f fd := by
  obtain ⟨f, fd, at_, F, kp⟩ := R._law_stream
  refine ⟨f, fd, F.ok sc__law_stream (fun vs H Q E h => ?_) (fun cdv A outer s H vs Q E hr h => ?_), at_, kp, F.binds (fun _ _ _ _ _ _ us hl => match us, hl with | [_], _ => rfl)⟩
  · obtain ⟨a, ns, rfl, _⟩ := h; rfl
  · obtain ⟨a, ns, rfl, ha, k⟩ := h
    refine ⟨_, (pss_cons (ps_setLc (i := 1) (own := [("_law_cell", 2)]) rfl sc__law_stream.nd rfl rfl (sw_true rfl rfl rfl (by decide +kernel)) (show PI _ _ _ (iList K _) from pi_list (pe_slice (r := rSlL K) sl_list (pv 0) po_none (po_some pe_int))) (blkOk_by (own := [("_law_cell", 2)]) (N := ["_law_script", "_law_cells", "_law_cell"]) (sc := defScope s__law_stream) (by decide +kernel)) (fun _ _ _ _ _ => (pg_name (i := 2) sc__law_stream.nd rfl (Or.inl rfl))) (fun _ _ _ _ _ => pts_nil) (fun _ _ _ _ _ => (pe_callTy call_int1 (by rfl) T.int (by decide +kernel) (pa_cons (pv 2) pa_nil))))
  (Evl.pss_cut (ps_if (pt_cmpR (r := rEqD K) (op_eqD hr.units) (pv 1) (pe_lst pa_nil) (nomark _)) (pss_one (ps_set (i := 1) sc__law_stream.nd rfl (Or.inl rfl) (pe_lst (pa_cons pe_int pa_nil)))) pss_nil)
  (pss_one (ps_ret (pe_lst (pa_cons (pv 1) (pa_cons pe_int pa_nil))))))), ?_⟩
    obtain ⟨cs, hcs, c63⟩ : ∃ cs : List Int, cutV (ns.map V.int) none (some 63) = cs.map V.int ∧ cs.length ≤ 63 := by
      refine ⟨ns.take 63, ?_, by rw [List.length_take]; omega⟩
      unfold cutV
      rw [HT.sIx_none, show (some (63 : Int)) = some ((63 : Nat) : Int) from rfl, HT.sIx_nat, List.drop_zero, Nat.sub_zero, List.map_take]
      refine List.take_eq_take_iff.mpr ?_
      omega
    refine Evl.q_asgL (xs := cs.map V.int) ?_ fun p H1 hp e1 hp1 => ?_
    · have := el_lcN (K := K) (j := 2) (vs := [2]) (f := fun i => ((cs.map V.int)[i]?).getD .non) (te := tCB (fun xs H Q => (∃ i, xs = [V.int i] ∧ Q (.int i) H) ∨ ∃ k, xs = [V.bl k] ∧ Q (.int (if k then 1 else 0)) H) (tCons (tVar 2) tNil)) (hcs ▸ Evl.el_sl (σ := [some (.ref a), none, none]) (Evl.ev_var (i := 0) rfl) Evl.eo_none (Evl.eo_some Evl.ev_c) ha) (by rw [List.length_map]; omega) (fun _ => rfl) fun i x hx H2 e2 => ?_
      · rw [map_range (g := _root_.id) rfl (fun i a ha => by rw [ha]; rfl), List.map_id] at this
        exact this
      · rw [List.getElem?_map] at hx
        cases hy : cs[i]? with
        | none => rw [hy] at hx; cases hx
        | some y =>
        rw [hy] at hx
        cases hx
        refine Evl.ev_is (ev_int1 (i := y) (Evl.ev_var rfl)) ?_
        rw [List.getElem?_map, hy]; rfl
    · refine Evl.q_cut (M := fun σ' H' => ∃ (c : Addr) (cs : List Int) (o2 : Option V), σ' = [some (.ref a), some (.ref c), o2] ∧ H' c = some (.lst (cs.map V.int)) ∧ 0 < cs.length ∧ cs.length ≤ 63) ?_ ?_
      · refine ⟨_, rfl, (by show 0 ≤ sizeLine; decide), fun q hq => ?_⟩
        have e2 : Ex H1 (upd H1 q (.lst [])) := Ex.new hq
        refine ⟨_, _, dp_ints (ns := cs) (Evl.sq_of (e2 _ _ hp1)), dp_ints (ns := []) (Evl.sq_of upd_same), shaped_ints _, shaped_ints _, _, rfl, ?_⟩
        cases cs with
        | nil =>
          refine iteT ?_
          exact Evl.s_asgL (xs := [V.int 0]) (Evl.el_lst (Evl.ea_cons Evl.ev_c Evl.ea_nil) (by show 1 ≤ 100000; decide)) fun p2 H2 _ e3 hp2 => ⟨p2, [0], _, rfl, hp2, by decide, by decide⟩
        | cons x cs =>
          refine iteF ?_
          exact ⟨p, x :: cs, _, rfl, e2 _ _ hp1, by simp, c63⟩
      · rintro σ' H' ⟨c, cs, o2, rfl, hc, c0, c1⟩
        exact Evl.s_retL (xs := [.ref c, .int 0]) (Evl.el_lst (Evl.ea_cons (Evl.ev_var rfl) (Evl.ea_cons Evl.ev_c Evl.ea_nil)) (by show 2 ≤ 100000; decide)) fun q H2 hq e2 hq2 => k H2 q c ⟨fun e => (by rw [e, hc] at hq; cases hq), 0, cs, hq2, e2 _ _ hc, c0, c1⟩
def spDraw : Sp := fun vs H Q _ => ∃ (S c : Addr) (m : Int), vs = [.ref S, .int m] ∧ StAt H S c ∧ 1 ≤ m ∧ m < 1073741824 * 1073741824 ∧ ∀ H' r, Mv S c H H' → 0 ≤ r → r < m → Q (.int r) H'
theorem ok__law_draw (T : Txt K mg C_Shape) (R : Prg K mg C_Shape) : ∃ f fd, Fn P w K mg base "_law_draw" 1 ["_law_stream_here", "_law_many"] spDraw f fd := by
  obtain ⟨f, fd, at_, F, kp⟩ := R._law_draw
  refine ⟨f, fd, F.ok sc__law_draw (fun vs H Q E h => ?_) (fun cdv A outer s H vs Q E hr h => ?_), at_, kp, F.binds (fun _ _ _ _ _ _ us hl => match us, hl with | [_, _], _ => rfl)⟩
  · obtain ⟨S, c, m, rfl, _⟩ := h; rfl
  · obtain ⟨S, c, m, rfl, st, m1, m2, k⟩ := h
    obtain ⟨ne, k0, cs, hS, hc, c0, c63⟩ := id st
    refine ⟨_, (pss_cons (ps_set (i := 2) sc__law_draw.nd rfl (Or.inl rfl) (pe_ix (r := rIxL K) ix_list (pv 0) pe_int (fun _ _ => rfl)))
  (pss_cons (ps_set (i := 3) sc__law_draw.nd rfl (Or.inl rfl) (pe_ix (r := rIxL K) ix_list (pv 0) pe_int (fun _ _ => rfl)))
  (pss_cons (ps_asg (pe_op op_add (pv 3) pe_int) (pg_sub (pv 0) pe_int set_list))
  (pss_cons (ps_set (i := 4) sc__law_draw.nd rfl (Or.inl rfl) (pe_op op_mod (pe_callTy call_int1 (by rfl) T.int (by decide +kernel) (pa_cons (pv 3) pa_nil)) (pe_callB (r := rLenA K) call_len (by rfl) T.len (by decide +kernel) (pa_cons (pv 2) pa_nil))))
  (pss_cons (ps_set (i := 5) sc__law_draw.nd rfl (Or.inl rfl) (pe_ix (r := rIxL K) ix_list (pv 2) (pv 4) (fun _ _ => rfl)))
  (pss_cons (ps_if (pt_cmpR op_ge (pv 5) (pe_op op_pow pe_int pe_int) (nomark _)) (pss_cons (ps_asg (pe_op op_fdivW (pv 5) (pv 1)) (pg_sub (pv 2) (pv 4) set_list))
  (pss_one (ps_ret (pe_op op_mod (pe_callTy call_int1 (by rfl) T.int (by decide +kernel) (pa_cons (pv 5) pa_nil)) (pv 1))))) pss_nil)
  (pss_cons (ps_set (i := 6) sc__law_draw.nd rfl (Or.inl rfl) (pe_op op_mod (pe_op op_mul (pe_callTy call_int1 (by rfl) T.int (by decide +kernel) (pa_cons (pe_op op_add (pe_op op_add (pv 5) (pe_op op_mul pe_int (pv 3))) pe_int) pa_nil)) pe_int) pe_int))
  (pss_cons (ps_set (i := 6) sc__law_draw.nd rfl (Or.inl rfl) (pe_op op_mod (pe_callTy call_int1 (by rfl) T.int (by decide +kernel) (pa_cons (pe_op op_mul (pv 6) (pe_op op_add (pe_op op_fdiv (pv 6) pe_int) pe_int)) pa_nil)) pe_int))
  (pss_cons (ps_set (i := 6) sc__law_draw.nd rfl (Or.inl rfl) (pe_op op_mod (pe_callTy call_int1 (by rfl) T.int (by decide +kernel) (pa_cons (pe_op op_mul (pv 6) (pe_op op_add (pe_op op_fdiv (pv 6) pe_int) pe_int)) pa_nil)) pe_int))
  (pss_one (ps_ret (pe_op op_mod (pe_callTy call_int1 (by rfl) T.int (by decide +kernel) (pa_cons (pv 6) pa_nil)) (pv 1))))))))))))), ?_⟩
    refine Evl.q_asg (Evl.ev_op (Evl.ev_var rfl) Evl.ev_c (Evl.rv_ixL (Evl.sq_of hS) rfl)) fun H1 e1 => ?_
    refine Evl.q_asg (Evl.ev_op (Evl.ev_var rfl) Evl.ev_c (Evl.rv_ixL (Evl.sq_of (e1 _ _ hS)) rfl)) fun H2 e2 => ?_
    have e02 := e1.trans e2
    refine Evl.q_setL (l := S) (j := 1) (v := .int (k0 + 1)) (e02 _ _ hS) (Evl.ev_op (Evl.ev_var rfl) Evl.ev_c Evl.rv_I0) (Evl.ev_var rfl) Evl.ev_c (by show 1 < 2; decide) fun H3 e3 => ?_
    have m3 : Mv S c H (upd H3 S (.lst ([V.ref c, .int k0].set 1 (.int (k0 + 1))))) := by
      have e03 := e02.trans e3
      refine ⟨st, ⟨ne, k0 + 1, cs, upd_same, by rw [upd_ne (Ne.symm ne)]; exact e03 _ _ hc, c0, c63⟩, fun b o b1 b2 hb => ?_⟩
      rw [upd_ne b1]
      exact e03 _ _ hb
    have hc3 : (upd H3 S (.lst ([V.ref c, .int k0].set 1 (.int (k0 + 1))))) c = some (.lst (cs.map V.int)) := by rw [upd_ne (Ne.symm ne)]; exact (e02.trans e3) _ _ hc
    generalize (upd H3 S (.lst ([V.ref c, .int k0].set 1 (.int (k0 + 1))))) = H4 at m3 hc3 ⊢
    have l0 : (0 : Int) < ((cs.map V.int).length : Int) := by rw [List.length_map]; omega
    refine Evl.q_asg (Evl.ev_op (ev_int1 (Evl.ev_var rfl)) (ev_lenL (Evl.ev_var rfl) (.inl (Evl.sq_of hc3))) (Evl.rv_I l0)) fun H5 e5 => ?_
    have a0 : 0 ≤ k0 % ((cs.map V.int).length : Int) := Int.emod_nonneg _ (by omega)
    have a1 : k0 % ((cs.map V.int).length : Int) < ((cs.map V.int).length : Int) := Int.emod_lt_of_pos _ l0
    generalize k0 % ((cs.map V.int).length : Int) = at_ at a0 a1 ⊢
    obtain ⟨v, hv, hat⟩ := at_get a0 a1
    obtain ⟨x, rfl⟩ : ∃ x, v = V.int x := by
      rw [List.getElem?_map] at hv
      cases hy : cs[at_.toNat]? with
      | none => rw [hy] at hv; cases hv
      | some y => rw [hy] at hv; exact ⟨y, (Option.some.inj hv).symm⟩
    refine Evl.q_asg (Evl.ev_op (Evl.ev_var rfl) (Evl.ev_var rfl) (Evl.rv_ixL (Evl.sq_of (e5 _ _ hc3)) hat)) fun H6 e6 => ?_
    have m6 := m3.tx (e5.trans e6)
    have hc6 := (e5.trans e6) _ _ hc3
    clear hc3 m3 e5 e6 e3 e02 e2 e1
    refine Evl.q_when (Evl.et_test (Evl.ev_op (Evl.ev_var rfl) (Evl.ev_op Evl.ev_c Evl.ev_c (Evl.rv_I ⟨by decide, by decide, by decide⟩)) Evl.rv_I0)) (fun _ H7 e7 => ?_) (fun _ H7 e7 => ?_)
    · have ej : ((at_.toNat : Nat) : Int) = at_ := by omega
      refine Evl.q_setL (l := c) (j := at_.toNat) (v := .int (x / m)) (e7 _ _ hc6) (Evl.ev_op (Evl.ev_var rfl) (Evl.ev_var rfl) (Evl.rv_I ⟨by omega, ?_⟩)) (Evl.ev_var rfl) (Evl.ev_var (by rw [ej]; rfl)) (by omega) fun H8 e8 => ?_
      · have : m.natAbs < 2 ^ 60 := by omega
        have h2 : m.natAbs.log2 < 60 := (Nat.log2_lt (by omega)).mpr this
        omega
      · have m8 : Mv S c H (upd H8 c (.lst ((cs.map V.int).set at_.toNat (.int (x / m))))) := by
          have m7 := m6.tx (e7.trans e8)
          obtain ⟨_, k1, cs1, h1, h2, h3⟩ := m7.z
          refine ⟨st, ⟨ne, k1, cs.set at_.toNat (x / m), by rw [upd_ne ne]; exact h1, by rw [upd_same, List.map_set], by rw [List.length_set]; exact c0, by rw [List.length_set]; exact c63⟩, fun b o b1 b2 hb => ?_⟩
          rw [upd_ne b2]
          exact m7.fr b o b1 b2 hb
        refine Evl.s_ret (Evl.ev_op (ev_int1 (Evl.ev_var rfl)) (Evl.ev_var rfl) (Evl.rv_I (by omega))) fun H9 e9 => k H9 _ (m8.tx e9) (Int.emod_nonneg _ (by omega)) (Int.emod_lt_of_pos _ (by omega))
    · have m7 := m6.tx e7
      refine Evl.q_asg (Evl.ev_op (Evl.ev_op (ev_int1 (Evl.ev_op (Evl.ev_op (Evl.ev_var rfl) (Evl.ev_op Evl.ev_c (Evl.ev_var rfl) (Evl.rv_I (.inl ⟨by decide, by decide⟩))) Evl.rv_I0) Evl.ev_c Evl.rv_I0)) Evl.ev_c (Evl.rv_I (.inr ⟨by decide, by decide⟩))) Evl.ev_c (Evl.rv_I (by decide))) fun H8 e8 => ?_
      have b0 : 0 ≤ (x + 7919 * k0 + 1) * 48271 % 2147483647 := Int.emod_nonneg _ (by decide)
      have b1 : (x + 7919 * k0 + 1) * 48271 % 2147483647 < 2147483647 := Int.emod_lt_of_pos _ (by decide)
      generalize (x + 7919 * k0 + 1) * 48271 % 2147483647 = y at b0 b1 ⊢
      refine Evl.q_asg (Evl.ev_op (ev_int1 (Evl.ev_op (Evl.ev_var rfl) (Evl.ev_op (Evl.ev_op (Evl.ev_var rfl) Evl.ev_c (Evl.rv_I ⟨by decide, by decide⟩)) Evl.ev_c Evl.rv_I0) (Evl.rv_I (.inl ⟨by omega, by omega⟩)))) Evl.ev_c (Evl.rv_I (by decide))) fun H9 e9 => ?_
      have b0 : 0 ≤ y * (y / 1009 + 69621) % 2147483647 := Int.emod_nonneg _ (by decide)
      have b1 : y * (y / 1009 + 69621) % 2147483647 < 2147483647 := Int.emod_lt_of_pos _ (by decide)
      generalize y * (y / 1009 + 69621) % 2147483647 = z at b0 b1 ⊢
      refine Evl.q_asg (Evl.ev_op (ev_int1 (Evl.ev_op (Evl.ev_var rfl) (Evl.ev_op (Evl.ev_op (Evl.ev_var rfl) Evl.ev_c (Evl.rv_I ⟨by decide, by decide⟩)) Evl.ev_c Evl.rv_I0) (Evl.rv_I (.inl ⟨by omega, by omega⟩)))) Evl.ev_c (Evl.rv_I (by decide))) fun H10 e10 => ?_
      refine Evl.s_ret (Evl.ev_op (ev_int1 (Evl.ev_var rfl)) (Evl.ev_var rfl) (Evl.rv_I (by omega))) fun H11 e11 => k H11 _ (m7.tx (e8.trans (e9.trans (e10.trans e11)))) (Int.emod_nonneg _ (by omega)) (Int.emod_lt_of_pos _ (by omega))
end
end Pk

namespace Pk
open PySem PySem.Spec PyProof.Rows L2 Ssb
open Evl (Ex Ev EvT EvL EvA EvU)
theorem pigeon {α : Type} [DecidableEq α] : ∀ {l m : List α}, l.Nodup → (∀ x ∈ l, x ∈ m) → l.length ≤ m.length
  | [], _, _, _ => Nat.zero_le _
  | x :: l, m, nd, h => by
    rw [List.nodup_cons] at nd
    have h1 := pigeon (m := m.erase x) nd.2 fun y hy => (List.mem_erase_of_ne (fun e => nd.1 (by rw [← e]; exact hy))).mpr (h y (List.mem_cons_of_mem _ hy))
    have h2 := List.length_erase_of_mem (h x List.mem_cons_self)
    have h3 : 0 < m.length := List.length_pos_of_mem (h x List.mem_cons_self)
    rw [List.length_cons]
    omega
theorem inV_strs {w : Str} {ws : List Str} : inV (.str w) (ws.map V.str) = true ↔ w ∈ ws := by
  unfold inV
  rw [List.any_eq_true]
  constructor
  · rintro ⟨y, hy, e⟩
    obtain ⟨z, hz, rfl⟩ := List.mem_map.mp hy
    have : z = w := by simpa [eqV] using e
    rw [← this]; exact hz
  · intro h
    exact ⟨.str w, List.mem_map.mpr ⟨w, h, rfl⟩, by simp [eqV]⟩
theorem inV_ints {w : Int} {ws : List Int} : inV (.int w) (ws.map V.int) = true ↔ w ∈ ws := by
  unfold inV
  rw [List.any_eq_true]
  constructor
  · rintro ⟨y, hy, e⟩
    obtain ⟨z, hz, rfl⟩ := List.mem_map.mp hy
    have : z = w := by simpa [eqV] using e
    rw [← this]; exact hz
  · intro h
    exact ⟨.int w, List.mem_map.mpr ⟨w, h, rfl⟩, by simp [eqV]⟩
theorem flat_strs (ws : List Str) : (ws.map V.str).all flatV = true := by
  rw [List.all_eq_true]; intro y hy; obtain ⟨z, _, rfl⟩ := List.mem_map.mp hy; rfl
theorem flat_ints (ws : List Int) : (ws.map V.int).all flatV = true := by
  rw [List.all_eq_true]; intro y hy; obtain ⟨z, _, rfl⟩ := List.mem_map.mp hy; rfl
theorem given_filter {xs : List V} {g : V → Bool} : Evl.given xs.length (fun i => g ((xs[i]?).getD .non)) (fun i => (xs[i]?).getD .non) = xs.filter g := by
  unfold Evl.given
  have h : (List.range xs.length).map (fun i => (xs[i]?).getD .non) = xs := by
    rw [map_range (g := _root_.id) rfl (fun i a ha => by rw [ha]; rfl), List.map_id]
  conv => rhs; rw [← h, List.filter_map]
  rfl
def chrs (s : Str) : List V := s.cps.toList.map fun c => V.str ⟨#[c]⟩
section
variable {K : PySem.W.Frag} {σ : L2.St} {H : Hp} {te tl ta : TE} {t : TT} {vs : List Nat} {j : Nat}
theorem el_lcSF {s : Str} {g : V → Bool} (h : Ev ta σ H (.str s)) (hz : s.length ≤ 40000) (hw : ∀ x, wipe ((wipe σ vs).set j (some x)) vs = wipe σ vs)
    (ht : ∀ x H2, Ex H H2 → x ∈ chrs s → EvT t ((wipe σ vs).set j (some x)) H2 (g x)) (he : ∀ x H2, Ex H H2 → x ∈ chrs s → Ev te ((wipe σ vs).set j (some x)) H2 x) : EvL (tLc (iStr ta) (gName j) t te vs) σ H ((chrs s).filter g) := fun H1 e Q q =>
  h H1 e _ fun H2 e2 => ⟨s, rfl, fun Dl hD => by
    have w : Walk (Its s) (chrs s).length (fun _ => True) (YAt (chrs s)) := by
      have l : (chrs s).length = s.cps.size := by simp [chrs]
      rw [l]
      refine walk_str.mono (fun _ z => z) fun i H v H' hi _ y => ?_
      obtain ⟨e, c, hc, rfl⟩ := y
      exact ⟨e, by simp [chrs, hc]⟩
    have l5 : (chrs s).length ≤ 40000 := by simp [chrs]; exact hz
    refine lc_it w (Evl.Cw H2 (fun i => g (((chrs s)[i]?).getD .non)) (fun i => ((chrs s)[i]?).getD .non) Dl) ⟨hD, Ex.new hD, upd_same⟩ (fun _ _ _ _ => trivial) (fun i x H3 H4 hi p y => ?_) fun H3 p => ?_
    · obtain ⟨rfl, hx⟩ := y
      have hm := List.mem_of_getElem? hx
      refine ⟨hw x, Evl.cw_turn p (by omega) ?_ fun _ => ?_⟩
      · rw [hx]; exact ht x H2 (e.trans e2) hm
      · rw [hx]; exact he x H2 (e.trans e2) hm
    · refine q Dl H3 (Evl.fresh_back e2 p.1) (e2.trans p.2.1) ?_
      have := p.2.2
      rw [given_filter] at this
      exact this⟩
theorem el_lcF {a : Addr} {xs : List V} {g : V → Bool} (h : Ev tl σ H (.ref a)) (hx : SqL K H a xs) (hz : xs.length ≤ 40000) (hw : ∀ x, wipe ((wipe σ vs).set j (some x)) vs = wipe σ vs)
    (ht : ∀ x H2, Ex H H2 → x ∈ xs → EvT t ((wipe σ vs).set j (some x)) H2 (g x)) (he : ∀ x H2, Ex H H2 → x ∈ xs → Ev te ((wipe σ vs).set j (some x)) H2 x) : EvL (tLc (iList K tl) (gName j) t te vs) σ H (xs.filter g) := by
  have := Evl.el_lcL (K := K) (te := te) (t := t) (vs := vs) (j := j) (fun i => g ((xs[i]?).getD .non)) (fun i => (xs[i]?).getD .non) h hx hz hw (fun i x H1 e hi => by rw [hi]; exact ht x H1 e (List.mem_of_getElem? hi)) (fun i x H1 e hi _ => by rw [hi]; exact he x H1 e (List.mem_of_getElem? hi))
  rw [given_filter] at this
  exact this
end
def ab : Str := "abcdefghijklmnopqrstuvwxyz"
theorem ab_ok : ∀ c ∈ ab.cps.toList, 97 ≤ c ∧ c ≤ 122 := by decide +kernel
theorem ab_len : ab.cps.toList.length = 26 := by decide +kernel
def abS : List Str := ab.cps.toList.map fun c => ⟨#[c]⟩
theorem ab_chrs : chrs ab = abS.map V.str := by unfold chrs abS; rw [List.map_map]; rfl
theorem abS_nd : abS.Nodup := by decide +kernel
theorem abS_len : abS.length = 26 := by decide +kernel
theorem abS_w : ∀ x ∈ abS, isW x := fun x hx => by
  obtain ⟨c, hc, rfl⟩ := List.mem_map.mp hx
  refine ⟨by show 1 ≤ 1; decide, by show 1 ≤ 8; decide, fun d hd => ?_⟩
  have : d = c := by simpa using hd
  rw [this]; exact ab_ok c hc
section
variable {P : Program} {w : World} {K : PySem.W.Frag} {mg : Str → Option Value} {base : Heap} {C_Shape : Addr}
def spWord : Sp := fun vs H Q _ => ∃ (S c : Addr), vs = [.ref S] ∧ StAt H S c ∧ ∀ H' w, Mv S c H H' → isW w → Q (.str w) H'
theorem ok__law_word (T : Txt K mg C_Shape) (R : Prg K mg C_Shape) : ∃ f fd, Fn P w K mg base "_law_word" 2 ["_law_stream_here"] spWord f fd := by
  obtain ⟨_, _, G__law_draw⟩ := ok__law_draw (P := P) (w := w) (base := base) T R
  obtain ⟨f, fd, at_, F, kp⟩ := R._law_word
  refine ⟨f, fd, F.ok sc__law_word (fun vs H Q E h => ?_) (fun cdv A outer s H vs Q E hr h => ?_), at_, kp, F.binds (fun _ _ _ _ _ _ us hl => match us, hl with | [_], _ => rfl)⟩
  · obtain ⟨S, c, rfl, _⟩ := h; rfl
  · obtain ⟨S, c, rfl, st, k⟩ := h
    refine ⟨_, (pss_cons (ps_set (i := 1) sc__law_word.nd rfl (Or.inl rfl) pe_str)
  (pss_cons (ps_set (i := 2) sc__law_word.nd rfl (Or.inl rfl) (pe_op op_add pe_int (pcl G__law_draw hr (pa_cons (pv 0) (pa_cons pe_int pa_nil)))))
  (Evl.pss_cut (ps_if (pt_cmpR op_gt (pcl G__law_draw hr (pa_cons (pv 0) (pa_cons pe_int pa_nil))) pe_int (nomark _)) (pss_one (ps_set (i := 2) sc__law_word.nd rfl (Or.inl rfl) (pe_op op_add pe_int (pe_op op_mod (pe_callTy call_int1 (by rfl) T.int (by decide +kernel) (pa_cons (pv 2) pa_nil)) pe_int)))) pss_nil)
  (pss_cons (ps_set (i := 3) sc__law_word.nd rfl (Or.inl rfl) (pcl G__law_draw hr (pa_cons (pv 0) (pa_cons pe_int pa_nil))))
  (pss_cons (ps_set (i := 4) sc__law_word.nd rfl (Or.inl rfl) pe_str)
  (pss_cons (ps_for PassesOwn.never rfl (pi_range1 (by rfl) T.range (pa_cons (pv 2) pa_nil)) (pg_name (i := 5) sc__law_word.nd rfl (Or.inl rfl))
    (pss_cons (ps_set (i := 4) sc__law_word.nd rfl (Or.inl rfl) (pe_op op_add_str (pv 4) (pe_ix ix_str (pv 1) (pe_op op_mod (pe_callTy call_int1 (by rfl) T.int (by decide +kernel) (pa_cons (pv 3) pa_nil)) pe_int) (fun _ _ => rfl))))
  (pss_one (ps_set (i := 3) sc__law_word.nd rfl (Or.inl rfl) (pe_op op_fdiv (pv 3) pe_int)))))
  (pss_one (ps_ret (pv 4))))))))), ?_⟩
    refine Evl.q_asg Evl.ev_c fun H1 e1 => ?_
    refine ⟨_, rfl, S, c, 8, rfl, st.ex e1, by decide, by decide, fun H2 r m2 r0 r1 => ⟨_, _, rfl, rfl, ?_⟩⟩
    have m02 := (Mv.ex st e1).trans m2
    refine Evl.q_cut (M := fun σ' H' => ∃ sz : Int, σ' = [some (.ref S), some (.str ab), some (.int sz), none, none, none] ∧ 1 ≤ sz ∧ sz ≤ 8 ∧ Mv S c H H') ?_ ?_
    · refine ⟨_, rfl, S, c, 3, rfl, m02.z, by decide, by decide, fun H3 r3 m3 _ _ => ⟨_, _, rfl, rfl, _, rfl, ?_⟩⟩
      refine ite2 (fun _ => ?_) (fun _ => ?_)
      · refine Evl.s_asg (Evl.ev_op Evl.ev_c (Evl.ev_op (ev_int1 (Evl.ev_var rfl)) Evl.ev_c (Evl.rv_I (by decide))) Evl.rv_I0) fun H4 e4 => ?_
        have q0 : 0 ≤ (1 + r) % 2 := Int.emod_nonneg _ (by decide)
        have q1 : (1 + r) % 2 < 2 := Int.emod_lt_of_pos _ (by decide)
        exact ⟨_, rfl, by omega, by omega, (m02.trans m3).tx e4⟩
      · exact ⟨_, rfl, by omega, by omega, m02.trans m3⟩
    · rintro σ' H3 ⟨sz, rfl, z1, z8, m3⟩
      refine ⟨_, rfl, S, c, 208827064576, rfl, m3.z, by decide, by decide, fun H4 r4 m4 _ _ => ?_⟩
      have m04 := m3.trans m4
      refine Evl.q_asg Evl.ev_c fun H5 e5 => ?_
      refine Evl.q_forR1 (n := sz) (Evl.ea_cons (Evl.ev_var rfl) Evl.ea_nil) ⟨by omega, by omega⟩ (fun i σ' H' => ∃ (num : Int) (w : Str) (o5 : Option V), σ' = [some (.ref S), some (.str ab), some (.int sz), some (.int num), some (.str w), o5] ∧ Mv S c H H' ∧ w.length = i ∧ ∀ c ∈ w.cps.toList, 97 ≤ c ∧ c ≤ 122) (fun H6 e6 => ⟨_, _, _, rfl, (m04.tx e5).tx e6, rfl, fun c hc => by cases hc⟩) (fun i σ' H' hi pv => ?_) fun σ' H' pv => ?_
      · obtain ⟨num, x, o5, rfl, mH, lx, hx⟩ := pv
        have q0 : 0 ≤ num % 26 := Int.emod_nonneg _ (by decide)
        have q1 : num % 26 < 26 := Int.emod_lt_of_pos _ (by decide)
        obtain ⟨ch, hch, hat⟩ := at_get (xs := ab.cps.toList) q0 (by rw [ab_len]; exact q1)
        refine Evl.q_asg (Evl.ev_op (Evl.ev_var rfl) (Evl.ev_op (Evl.ev_var rfl) (Evl.ev_op (ev_int1 (Evl.ev_var rfl)) Evl.ev_c (Evl.rv_I (by decide))) (Evl.rv_ixS (by show 26 ≤ 100000; decide) hat)) (z := .str (x ++ ⟨#[ch]⟩)) (fun H7 _ Q' q' => ⟨_, _, rfl, rfl, Evl.sz_of (by show x.length + 1 ≤ 100000; omega), q' _ (Ex.refl _)⟩)) fun H7 e7 => ?_
        refine Evl.s_asg (Evl.ev_op (Evl.ev_var rfl) Evl.ev_c (Evl.rv_I ⟨by decide, by decide⟩)) fun H8 e8 => ?_
        refine ⟨_, _, _, rfl, (mH.tx e7).tx e8, ?_, ?_⟩
        · show (x.cps ++ #[ch]).size = i + 1
          rw [Array.size_append]
          show x.length + 1 = i + 1
          rw [lx]
        · intro d hd
          have hd : d ∈ (x.cps ++ #[ch]).toList := hd
          rw [Array.toList_append, List.mem_append] at hd
          rcases hd with hd | hd
          · exact hx d hd
          · have : d = ch := by simpa using hd
            rw [this]
            exact ab_ok _ (List.mem_of_getElem? hch)
      · obtain ⟨num, x, o5, rfl, mH, lx, hx⟩ := pv
        exact Evl.s_ret (Evl.ev_var rfl) fun H7 e7 => k H7 x (mH.tx e7) ⟨by omega, by omega, hx⟩
theorem Mv.lst0 {S c : Addr} {H H' : Hp} (m : Mv S c H H') {t : Addr} (h : H t = some (.lst [])) : H' t = some (.lst []) := by
  obtain ⟨_, k, cs, h1, h2, h3, _⟩ := m.a
  refine m.fr t _ (fun e => by rw [e, h1] at h; cases h) (fun e => ?_) h
  rw [e, h2] at h
  cases cs with
  | nil => simp at h3
  | cons x xs => cases h
def spNames : Sp := fun vs H Q _ => ∃ (S c t : Addr) (k : Int), vs = [.ref S, .int k, .ref t] ∧ StAt H S c ∧ 0 ≤ k ∧ k ≤ 4 ∧ H t = some (.lst []) ∧ ∀ H' q (ws : List Str), Mv S c H H' → H q = none → H' q = some (.lst (ws.map V.str)) → (ws.length : Int) = k → (∀ x ∈ ws, isW x) → ws.Nodup → Q (.ref q) H'
theorem ok__law_names (T : Txt K mg C_Shape) (R : Prg K mg C_Shape) : ∃ f fd, Fn P w K mg base "_law_names" 3 ["_law_stream_here", "_law_many", "_law_taken"] spNames f fd := by
  obtain ⟨_, _, G__law_word⟩ := ok__law_word (P := P) (w := w) (base := base) T R
  obtain ⟨f, fd, at_, F, kp⟩ := R._law_names
  refine ⟨f, fd, F.ok sc__law_names (fun vs H Q E h => ?_) (fun cdv A outer s H vs Q E hr h => ?_), at_, kp, F.binds (fun _ _ _ _ _ _ us hl => match us, hl with | [_, _, _], _ => rfl)⟩
  · obtain ⟨S, c, t, n, rfl, _⟩ := h; rfl
  · obtain ⟨S, c, t, n, rfl, st, n0, n4, ht, k⟩ := h
    refine ⟨_, (pss_cons (ps_set (i := 3) sc__law_names.nd rfl (Or.inr rfl) (pe_lst pa_nil))
  (pss_cons (ps_for PassesOwn.never rfl (pi_range1 (by rfl) T.range (pa_cons (pv 1) pa_nil)) (pg_name (i := 4) sc__law_names.nd rfl (Or.inl rfl))
    (pss_cons (ps_set (i := 5) sc__law_names.nd rfl (Or.inl rfl) (pcl G__law_word hr (pa_cons (pv 0) pa_nil)))
  (Evl.pss_cut (ps_if (PW.pt (pw_or (pt_cmpR (r := rIn K false) op_in_seq (pv 5) (pv 2) (by rfl)) (pw_or1 (pt_cmpR (r := rIn K false) op_in_seq (pv 5) (pv 3) (by rfl))))) (pss_cons (ps_setLc (i := 6) (own := [("_law_spare", 7)]) rfl sc__law_names.nd rfl rfl (sw_true rfl rfl rfl (by decide +kernel)) (pi_str pe_str) (blkOk_by (own := [("_law_spare", 7)]) (N := ["_law_stream_here", "_law_many", "_law_taken", "_law_names_here", "_law_k", "_law_word_here", "_law_spares", "_law_spare"]) (sc := defScope s__law_names) (by decide +kernel)) (fun _ _ _ _ _ => (pg_name (i := 7) sc__law_names.nd rfl (Or.inl rfl))) (fun _ _ _ _ _ => (pts_one (pt_cmpR (r := rIn K true) op_notIn_seq (pv 7) (pv 2) (by rfl)))) (fun _ _ _ _ _ => (pv 7)))
  (pss_one (ps_set (i := 5) sc__law_names.nd rfl (Or.inl rfl) (pe_ix (r := rIxL K) ix_list (pe_lc (own := [("_law_spare", 7)]) rfl sc__law_names.nd (show PI _ _ _ (iList K _) from pi_list (pv 6)) (blkOk_by (own := [("_law_spare", 7)]) (N := ["_law_stream_here", "_law_many", "_law_taken", "_law_names_here", "_law_k", "_law_word_here", "_law_spares", "_law_spare"]) (sc := defScope s__law_names) (by decide +kernel)) (fun _ _ _ _ _ => (pg_name (i := 7) sc__law_names.nd rfl (Or.inl rfl))) (fun _ _ _ _ _ => (pts_one (pt_cmpR (r := rIn K true) op_notIn_seq (pv 7) (pv 3) (by rfl)))) (fun _ _ _ _ _ => (pv 7))) pe_int (fun _ _ => rfl))))) pss_nil)
  (pss_one (ps_expr (show PE _ _ (tBM K _ _ _ _) from pe_bm PySem.F.plainAttrs_list PySem.F.slot_list_append PySem.F.type_list_append mt_append (pv 3) (pa_cons (pv 5) pa_nil)))))))
  (pss_one (ps_ret (pv 3))))), ?_⟩
    refine Evl.q_asgL (xs := []) (Evl.el_lst Evl.ea_nil (Nat.zero_le _)) fun q H1 hq e1 hq1 => ?_
    refine Evl.q_forR1 (n := n) (Evl.ea_cons (Evl.ev_var rfl) Evl.ea_nil) ⟨by omega, by omega⟩ (fun i σ' H' => ∃ (ws : List Str) (o4 o5 o6 : Option V), σ' = [some (.ref S), some (.int n), some (.ref t), some (.ref q), o4, o5, o6, none] ∧ Mv S c H H' ∧ H' q = some (.lst (ws.map V.str)) ∧ ws.length = i ∧ (∀ x ∈ ws, isW x) ∧ ws.Nodup) (fun H2 e2 => ⟨[], _, _, _, rfl, .ex st (e1.trans e2), e2 _ _ hq1, rfl, fun x hx => (nomatch hx), List.nodup_nil⟩) (fun i σ' H' hi pv => ?_) fun σ' H' pv => ?_
    · obtain ⟨ws, o4, o5, o6, rfl, mH, hws, lws, wok, wnd⟩ := pv
      refine ⟨_, rfl, S, c, rfl, mH.z, fun H2 x m2 hx => ?_⟩
      have m02 := mH.trans m2
      have hq2 : H2 q = some (.lst (ws.map V.str)) := m2.fr q _ (st.someS hq).1 (st.someS hq).2 hws
      have ht2 := m02.lst0 ht
      have w5 : (ws.map V.str).length ≤ 40000 := by rw [List.length_map]; omega
      refine Evl.q_cut (M := fun σ' H' => ∃ (y : Str) (o6 : Option V), σ' = [some (.ref S), some (.int n), some (.ref t), some (.ref q), some (.int i), some (.str y), o6, none] ∧ Mv S c H H' ∧ H' q = some (.lst (ws.map V.str)) ∧ isW y ∧ y ∉ ws) ?_ ?_
      · refine Evl.s_when (Evl.et_or (Evl.et_test (Evl.ev_op (Evl.ev_var rfl) (Evl.ev_var rfl) (Evl.rv_isL (Evl.sq_of ht2) rfl rfl))) fun _ => Evl.et_test (Evl.ev_op (Evl.ev_var rfl) (Evl.ev_var rfl) (Evl.rv_isL (Evl.sq_of hq2) rfl (flat_strs ws)))) (fun _ H3 e3 => ?_) (fun hb H3 e3 => ?_)
        · refine Evl.q_asgL (xs := abS.map V.str) ?_ fun p H4 hp e4 hp4 => ?_
          · have := el_lcSF (s := ab) (g := fun _ => true) (ta := tC (.str ab)) (te := tVar 7) (t := tTest (tOp (rIn K true) (tVar 7) (tVar 2))) (j := 7) (vs := [7]) (H := H3) (σ := [some (.ref S), some (.int n), some (.ref t), some (.ref q), some (.int i), some (.str x), o6, none]) Evl.ev_c (by show 26 ≤ 40000; decide) (fun _ => rfl) (fun z H5 e5 hz => ?_) (fun z H5 e5 hz => Evl.ev_var rfl)
            · rw [List.filter_eq_self.mpr (fun _ _ => rfl), ab_chrs] at this
              exact this
            · obtain ⟨u, _, rfl⟩ := List.mem_map.mp hz
              exact Evl.et_is (Evl.et_test (Evl.ev_op (Evl.ev_var rfl) (Evl.ev_var rfl) (Evl.rv_niL (Evl.sq_of ((e3.trans e5) _ _ ht2)) rfl rfl))) rfl
          · obtain ⟨y, hy1, hy2⟩ : ∃ y, ((abS.map V.str).filter fun z => !inV z (ws.map V.str))[0]? = some (.str y) ∧ isW y ∧ y ∉ ws := by
              cases hc : ((abS.map V.str).filter fun z => !inV z (ws.map V.str)) with
              | nil =>
                exfalso
                have sub : ∀ x ∈ abS, x ∈ ws := fun x hx => by
                  have := List.filter_eq_nil_iff.mp hc (.str x) (List.mem_map.mpr ⟨x, hx, rfl⟩)
                  refine inV_strs.mp ?_
                  simpa using this
                have := pigeon abS_nd sub
                rw [abS_len] at this
                omega
              | cons z zs =>
                have hz : z ∈ (abS.map V.str).filter fun z => !inV z (ws.map V.str) := by rw [hc]; exact List.mem_cons_self
                obtain ⟨h1, h2⟩ := List.mem_filter.mp hz
                obtain ⟨u, hu, rfl⟩ := List.mem_map.mp h1
                refine ⟨u, rfl, abS_w u hu, fun hm => ?_⟩
                rw [inV_strs.mpr hm] at h2
                cases h2
            refine Evl.s_asg (v := .str y) (Evl.ev_opL1 (xs := (abS.map V.str).filter fun z => !inV z (ws.map V.str)) (el_lcF (Evl.ev_var rfl) (Evl.sq_of hp4) (by rw [List.length_map, abS_len]; decide) (fun _ => rfl) (fun z H5 e5 hz => ?_) (fun z H5 e5 hz => Evl.ev_var rfl)) (fun _ _ => Evl.ev_c) fun p2 H5 hp5 e5 => Evl.rv_ixL (Evl.sq_of hp5) (atI_nat hy1)) fun H5 e5 => ?_
            · obtain ⟨u, _, rfl⟩ := List.mem_map.mp hz
              exact Evl.et_test (Evl.ev_op (Evl.ev_var rfl) (Evl.ev_var rfl) (Evl.rv_niL (Evl.sq_of ((e3.trans (e4.trans e5)) _ _ hq2)) rfl (flat_strs ws)))
            · have e35 := e3.trans (e4.trans e5)
              exact ⟨y, _, rfl, m02.tx e35, e35 _ _ hq2, hy2.1, hy2.2⟩
        · refine ⟨x, _, rfl, m02.tx e3, e3 _ _ hq2, hx, fun hm => ?_⟩
          rw [inV_strs.mpr hm] at hb
          simp at hb
      · rintro σ' H3 ⟨y, o6, rfl, m3, hq3, yW, yn⟩
        refine Evl.s_app hq3 (Evl.ev_var rfl) (Evl.ev_var rfl) (by omega) fun H4 e4 => ?_
        refine ⟨ws ++ [y], _, _, _, rfl, (m3.tx e4).mut hq, by rw [upd_same, List.map_append]; rfl, by rw [List.length_append, lws]; rfl, fun z hz => ?_, ?_⟩
        · rcases List.mem_append.mp hz with hz | hz
          · exact wok z hz
          · rw [List.mem_singleton.mp hz]; exact yW
        · refine List.nodup_append.mpr ⟨wnd, by simp, fun a ha b hb => ?_⟩
          rw [List.mem_singleton.mp hb]
          intro e
          exact yn (by rw [← e]; exact ha)
    · obtain ⟨ws, o4, o5, o6, rfl, mH, hws, lws, wok, wnd⟩ := pv
      exact Evl.s_ret (Evl.ev_var rfl) fun H7 e7 => k H7 q ws (mH.tx e7) hq (e7 _ _ hws) (by omega) wok wnd
end
end Pk

namespace Pk
open PySem PySem.Spec PyProof.Rows L2 Ssb
open Evl (Ex Ev EvT EvL EvA EvU)
/-- only what stands counts -/
theorem rep_dom {H : Hp} : ∀ {n : Nat} {S : Addr → Prop} {d : D} {v : V}, Rep H n S d v → Rep H n (fun b => S b ∧ H b ≠ none) d v
  | 0, _, _, _, h => h.elim
  | n + 1, S, d, v, h => by
    cases d with
    | non => exact h
    | bl b => exact h
    | int i => exact h
    | str s => exact h
    | lst l =>
      obtain ⟨a, xs, e, s, ha, hl, p⟩ := h
      exact ⟨a, xs, e, ⟨s, by rw [ha]; exact fun z => nomatch z⟩, ha, hl, pair_imp p fun d x r => rep_dom r⟩
    | tup l =>
      obtain ⟨a, xs, e, ha, hl, p⟩ := h
      exact ⟨a, xs, e, ha, hl, pair_imp p fun d x r => rep_dom r⟩
    | dic l =>
      obtain ⟨a, es, e, s, ha, hl, p⟩ := h
      exact ⟨a, es, e, ⟨s, by rw [ha]; exact fun z => nomatch z⟩, ha, hl, pair_imp p fun q x r => ⟨r.1, rep_S (fun b z => ⟨⟨z.1.1, z.2⟩, z.1.2⟩) (rep_dom r.2)⟩⟩
theorem rep_Sd {H : Hp} {n : Nat} {S S' : Addr → Prop} {d : D} {v : V} (k : ∀ b, S b → H b ≠ none → S' b) (h : Rep H n S d v) : Rep H n S' d v := rep_S (fun b z => k b z.1 z.2) (rep_dom h)
theorem rep_upd {H : Hp} {n : Nat} {S : Addr → Prop} {d : D} {v : V} {a : Addr} {o u : HO} (ha : H a = some o) (no : ∀ xs, o ≠ .tup xs) (hS : ∀ b, S b → b ≠ a) (h : Rep H n S d v) : Rep (upd H a u) n S d v :=
  rep_to (fun b o' hb z => by
    have ne : b ≠ a := by
      rcases z with z | ⟨xs, rfl⟩
      · exact hS b z
      · intro e; rw [e, ha] at hb; exact no xs (Option.some.inj hb)
    rw [upd_ne ne]; exact hb) h
theorem lk_none {α : Type} : ∀ {l : List (Str × α)} {k : Str}, k ∉ l.map (·.1) → l.lookup k = none
  | [], _, _ => rfl
  | (j, d) :: l, k, h => by
    rw [lk_cons, if_neg (fun e => h (by rw [e]; exact List.mem_cons_self))]
    exact lk_none fun z => h (List.mem_cons_of_mem _ z)
theorem pair_strs {H : Hp} {n : Nat} {S : Addr → Prop} : ∀ {ws : List Str}, Paired (fun d x => Rep H (n + 1) S d x) (ws.map D.str) (ws.map V.str)
  | [] => .nil
  | w :: ws => .cons rfl pair_strs
theorem take_snoc {α : Type} {l : List α} {i : Nat} {x : α} (h : l[i]? = some x) : l.take (i + 1) = l.take i ++ [x] := by rw [List.take_add_one, h]; rfl
theorem not_take {α : Type} {l : List α} {i : Nat} {x : α} (nd : l.Nodup) (h : l[i]? = some x) : x ∉ l.take i := fun hm =>
  (List.nodup_append.mp (by rw [← take_snoc h]; exact List.Sublist.nodup (List.take_sublist _ _) nd : (l.take i ++ [x]).Nodup)).2.2 x hm x (List.mem_singleton.mpr rfl) rfl
theorem str_at {ws : List Str} {i : Nat} {x : V} (h : (ws.map V.str)[i]? = some x) : ∃ y, ws[i]? = some y ∧ x = .str y := by
  rw [List.getElem?_map] at h
  cases hy : ws[i]? with
  | none => rw [hy] at h; cases h
  | some y => rw [hy] at h; exact ⟨y, rfl, (Option.some.inj h).symm⟩
section
variable {P : Program} {w : World} {K : PySem.W.Frag} {mg : Str → Option Value} {base : Heap} {C_Shape : Addr}
def okFe (p : Str × List Str) : Prop := isW p.1 ∧ 2 ≤ p.2.length ∧ p.2.length ≤ 3 ∧ (∀ x ∈ p.2, isW x) ∧ p.2.Nodup
def spFieldsG : Sp := fun vs H Q _ => ∃ (S c : Addr), vs = [.ref S, .int 2] ∧ StAt H S c ∧ ∀ H' q f, Mv S c H H' → Rep H' 3 (fun b => H b = none) (flD f) (.ref q) → okFl f → Q (.ref q) H'
theorem ok__law_fields (T : Txt K mg C_Shape) (R : Prg K mg C_Shape) : ∃ f fd, Fn P w K mg base "_law_fields" 4 ["_law_stream_here", "_law_most"] spFieldsG f fd := by
  obtain ⟨_, _, G__law_names⟩ := ok__law_names (P := P) (w := w) (base := base) T R
  obtain ⟨_, _, G__law_draw⟩ := ok__law_draw (P := P) (w := w) (base := base) T R
  obtain ⟨f, fd, at_, F, kp⟩ := R._law_fields
  refine ⟨f, fd, F.ok sc__law_fields (fun vs H Q E h => ?_) (fun cdv A outer s H vs Q E hr h => ?_), at_, kp, F.binds (fun _ _ _ _ _ _ us hl => match us, hl with | [_, _], _ => rfl)⟩
  · obtain ⟨S, c, rfl, _⟩ := h; rfl
  · obtain ⟨S, c, rfl, st, k⟩ := h
    refine ⟨_, (pss_cons (ps_set (i := 2) sc__law_fields.nd rfl (Or.inl rfl) pe_dnewK)
  (pss_cons (ps_for PassesOwn.never rfl (show PI _ _ _ (iList K _) from pi_list (pcl G__law_names hr (pa_cons (pv 0) (pa_cons (pcl G__law_draw hr (pa_cons (pv 0) (pa_cons (pe_op op_add (pv 1) pe_int) pa_nil))) (pa_cons (pe_lst pa_nil) pa_nil))))) (pg_name (i := 3) sc__law_fields.nd rfl (Or.inl rfl))
    (pss_one (ps_dput (hu_of hr) (pv 2) (pv 3) (pe_callTy (r := rTupA K) call_tuple_of (by rfl) T.tuple (by decide +kernel) (pa_cons (pcl G__law_names hr (pa_cons (pv 0) (pa_cons (pe_op op_add pe_int (pcl G__law_draw hr (pa_cons (pv 0) (pa_cons pe_int pa_nil)))) (pa_cons (pe_lst pa_nil) pa_nil)))) pa_nil)) rfl)))
  (pss_one (ps_ret (pv 2))))), ?_⟩
    intro d hd
    have md := Mv.new (o := .dK []) st hd
    refine ⟨_, rfl, _, rfl, _, rfl, _, _, rfl, rfl, S, c, 3, rfl, md.z, by decide, by decide, fun H2 r m2 r0 r1 => ⟨(by show 0 ≤ sizeLine; decide), fun t0 ht0 => ?_⟩⟩
    have m02 := (md.trans m2).trans (.new (o := .lst []) m2.z ht0)
    refine ⟨S, c, t0, r, rfl, m02.z, r0, by omega, upd_same, fun H3 q ws m3 hq hq3 lw wok wnd => ?_⟩
    have m03 := m02.trans m3
    have hd1 : H3 d = some (.dK []) := by
      refine m3.fr d _ (st.someS hd).1 (st.someS hd).2 ?_
      rw [upd_ne (fun e => by rw [← e, m2.fr d _ (st.someS hd).1 (st.someS hd).2 upd_same] at ht0; cases ht0)]
      exact m2.fr d _ (st.someS hd).1 (st.someS hd).2 upd_same
    have nqd : q ≠ d := fun e => by rw [e, hd1] at hq3; cases hq3
    have qS : q ≠ S ∧ q ≠ c := m02.z.someS hq
    refine ⟨q, rfl, ⟨_, Evl.sq_of hq3⟩, for_list (K := K) (a := q) (xs := ws.map V.str) (fun i σ' H' => ∃ (es : List (Key × V)) (f : Fl) (o3 : Option V), σ' = [some (.ref S), some (.int 2), some (.ref d), o3] ∧ Mv S c H H' ∧ H' q = some (.lst (ws.map V.str)) ∧ H' d = some (.dK es) ∧ f.map (·.1) = ws.take i ∧ (∀ p ∈ f, okFe p) ∧
      Paired (fun (x : Str × D) (e : Key × V) => e.1 = Sum.inr x.1 ∧ Rep H' 2 (fun b => H b = none ∧ b ≠ d) x.2 e.2) (f.map fun p => (p.1, .tup (p.2.map .str))) es) ⟨[], [], _, rfl, m03, hq3, hd1, rfl, fun p hp => (nomatch hp), .nil⟩ (fun i σ' H' _ ⟨_, _, _, _, _, h, _⟩ => Evl.sq_of h) (fun i x σ' H' hx pv => ?_) fun σ' H' pv => ?_⟩
    · obtain ⟨es, f, o3, rfl, mH, hqH, hdH, fk, fok, pr⟩ := pv
      obtain ⟨y, hy, rfl⟩ := str_at hx
      refine ⟨_, rfl, _, rfl, S, c, 2, rfl, mH.z, by decide, by decide, fun H5 r5 m5 s0 s1 => ⟨_, _, rfl, rfl, (by show 0 ≤ sizeLine; decide), fun t1 ht1 => ?_⟩⟩
      have m6 := m5.trans (.new (o := .lst []) m5.z ht1)
      refine ⟨S, c, t1, 2 + r5, rfl, m6.z, by omega, by omega, upd_same, fun H7 q7 xs m7 hq7 hq77 lx xok xnd => ?_⟩
      refine ⟨q7, _, rfl, .inl ⟨Evl.sq_of hq77, fun tp htp => ?_⟩⟩
      have m8 := (m6.trans m7).tx (Ex.new (o := .tup (xs.map V.str)) htp)
      have dS := st.someS hd
      have hd8 := m8.fr d _ dS.1 dS.2 hdH
      have hq8 := m8.fr q _ qS.1 qS.2 hqH
      have ht8 : (upd H7 tp (.tup (xs.map V.str))) tp = some (.tup (xs.map V.str)) := upd_same
      generalize (upd H7 tp (.tup (xs.map V.str))) = H8 at m8 hd8 hq8 ht8 ⊢
      have les : es.length ≤ 100 := by
        have h1 := pair_len pr
        have h2 : f.length ≤ ws.length := by
          have := congrArg List.length fk
          rw [List.length_map, List.length_take] at this
          omega
        rw [List.length_map] at h1
        omega
      have nv : valV es (Sum.inr y : Key) = none := pair_no (F := fun x v => Rep H' 2 (fun b => H b = none ∧ b ≠ d) x v) pr (lk_none (by rw [List.map_map]; show y ∉ f.map (·.1); rw [fk]; exact not_take wnd hy))
      refine ⟨_, rfl, _, rfl, d, _, rfl, .inl ⟨es, Sum.inr y, hd8, rfl, Evl.sz_lt (by omega), rfl⟩, ?_⟩
      refine ⟨es ++ [(Sum.inr y, .ref tp)], f ++ [(y, xs)], _, rfl, (mH.trans m8).mut hd, by rw [upd_ne nqd]; exact hq8, by rw [upd_same, putK_new _ nv], by rw [List.map_append, fk, take_snoc hy]; rfl, fun p hp => ?_, ?_⟩
      · rcases List.mem_append.mp hp with hp | hp
        · exact fok p hp
        · rw [List.mem_singleton.mp hp]
          exact ⟨wok y (List.mem_of_getElem? hy), by show 2 ≤ xs.length; omega, by show xs.length ≤ 3; omega, xok, xnd⟩
      · rw [List.map_append]
        have tr : ∀ {x : D} {v : V}, Rep H8 2 (fun b => H b = none ∧ b ≠ d) x v → Rep (upd H8 d (.dK (putK es (Sum.inr y) (.ref tp)))) 2 (fun b => H b = none ∧ b ≠ d) x v := fun h => rep_lock hd8 (fun b z => z.2) h
        refine pair_snoc (pair_imp pr fun a b h => ⟨h.1, tr (rep_mv m8 (fun z => (st.someS z.1).1 rfl) (fun z => (st.someS z.1).2 rfl) h.2)⟩) ⟨rfl, tr ?_⟩
        exact ⟨tp, _, rfl, ht8, by show (xs.map D.str).length ≤ 100000; rw [List.length_map]; omega, pair_strs⟩
    · obtain ⟨es, f, o3, rfl, mH, hqH, hdH, fk, fok, pr⟩ := pv
      rw [List.length_map, List.take_of_length_le (Nat.le_refl _)] at fk
      have lf : f.length = ws.length := by rw [← fk, List.length_map]
      exact Evl.s_ret (Evl.ev_var rfl) fun H7 e7 => k H7 d f (mH.tx e7) (rep_ex e7 ⟨d, es, rfl, hd, hdH, by rw [List.length_map]; omega, pr⟩) ⟨by omega, by rw [fk]; exact wnd, fok⟩
end
end Pk

namespace Pk
open PySem PySem.Spec PyProof.Rows L2 Ssb
open Evl (Ex Ev EvT EvL EvA EvU)
theorem merge2 {k1 k2 : Str} {v1 v2 : V} (ne : k1 ≠ k2) : mergeK [] [((Sum.inr k1 : Key), v1), (Sum.inr k2, v2)] = [(Sum.inr k1, v1), (Sum.inr k2, v2)] := by
  show putK (putK [] (Sum.inr k1 : Key) v1) (Sum.inr k2) v2 = _
  rw [putK_new _ (by rfl : valV ([] : List (Key × V)) (Sum.inr k1) = none), List.nil_append, putK_new]
  · rfl
  · rw [vV_cons, if_neg fun z => ne (Sum.inr.inj z)]; rfl
theorem merge3 {k1 k2 k3 : Str} {v1 v2 v3 : V} (ne : k1 ≠ k2) (n13 : k1 ≠ k3) (n23 : k2 ≠ k3) : mergeK [] [((Sum.inr k1 : Key), v1), (Sum.inr k2, v2), (Sum.inr k3, v3)] = [(Sum.inr k1, v1), (Sum.inr k2, v2), (Sum.inr k3, v3)] := by
  show putK (mergeK [] [((Sum.inr k1 : Key), v1), (Sum.inr k2, v2)]) (Sum.inr k3) v3 = _
  rw [merge2 ne, putK_new]
  · rfl
  · rw [vV_cons, if_neg fun z => n13 (Sum.inr.inj z), vV_cons, if_neg fun z => n23 (Sum.inr.inj z)]; rfl
theorem nFI : ¬ (("fields" : Str) = "inner") := by decide +kernel
theorem lk2a {d1 d2 : D} : List.lookup ("fields" : Str) [(("fields" : Str), d1), (("inner" : Str), d2)] = some d1 := by rw [lk_cons, if_pos rfl]
theorem lk2b {d1 d2 : D} : List.lookup ("inner" : Str) [(("fields" : Str), d1), (("inner" : Str), d2)] = some d2 := by rw [lk_cons, if_neg (fun e => nFI e.symm), lk_cons, if_pos rfl]
section
variable {P : Program} {w : World} {K : PySem.W.Frag} {mg : Str → Option Value} {base : Heap} {C_Shape : Addr}
/-- the j-th list of the description, its names out of ws -/
def okJ (ws : List Str) (j : Nat) (p : Str × Fl × List (Str × Fl)) : Prop := ws[j]? = some p.1 ∧ okFl p.2.1 ∧ (p.2.2 = [] ∨ ∃ x f, p.2.2 = [(x, f)] ∧ ws[j + 2]? = some x ∧ okFl f)
theorem okSh_of {ws : List Str} {s : Sh} (hn : ws.Nodup) (hl : ws.length = 4) (hw : ∀ x ∈ ws, isW x) (h2 : s.length ≤ 2) (h : ∀ j p, s[j]? = some p → okJ ws j p) : okSh s := by
  refine ⟨h2, ?_, fun p hp => ?_⟩
  · obtain ⟨w0, w1, w2, w3, rfl⟩ : ∃ a b c d, ws = [a, b, c, d] := by
      match ws, hl with
      | [a, b, c, d], _ => exact ⟨a, b, c, d, rfl⟩
    have n : w0 ≠ w1 ∧ w0 ≠ w2 ∧ w0 ≠ w3 ∧ w1 ≠ w2 ∧ w1 ≠ w3 ∧ w2 ≠ w3 := by
      simp only [List.nodup_cons, List.mem_cons, List.not_mem_nil, or_false, not_or] at hn
      exact ⟨hn.1.1, hn.1.2.1, hn.1.2.2, hn.2.1.1, hn.2.1.2, hn.2.2.1⟩
    obtain ⟨n1, n2, n3, n4, n5, n6⟩ := n
    match s, h2, h with
    | [], _, _ => exact List.nodup_nil
    | [a], _, h =>
      obtain ⟨a1, _, a3⟩ := h 0 a rfl
      obtain ⟨an, af, ai⟩ := a
      cases a1
      rcases a3 with e | ⟨x, f, e, a4, _⟩
      · cases e; simp [rowsS, rowsOf]
      · cases e; cases a4; simp [rowsS, rowsOf, n2]
    | [a, b], _, h =>
      obtain ⟨a1, _, a3⟩ := h 0 a rfl
      obtain ⟨b1, _, b3⟩ := h 1 b rfl
      obtain ⟨an, af, ai⟩ := a
      obtain ⟨bn, bf, bi⟩ := b
      cases a1
      cases b1
      rcases a3 with e | ⟨x, f, e, a4, _⟩
      · cases e
        rcases b3 with e | ⟨y, g, e, b4, _⟩
        · cases e; simp [rowsS, rowsOf, n1]
        · cases e; cases b4; simp [rowsS, rowsOf, n1, n3, n5]
      · cases e; cases a4
        rcases b3 with e | ⟨y, g, e, b4, _⟩
        · cases e; simp [rowsS, rowsOf, n1, n2, Ne.symm n4]
        · cases e; cases b4; simp [rowsS, rowsOf, n1, n2, n3, n5, Ne.symm n4, n6]
  · obtain ⟨j, hj, e⟩ := List.mem_iff_getElem.mp hp
    obtain ⟨p1, p2, p3⟩ := h j p (by rw [← e]; exact List.getElem?_eq_getElem hj)
    refine ⟨hw _ (List.mem_of_getElem? p1), p2, ?_, ?_⟩
    · rcases p3 with e | ⟨x, f, e, _⟩ <;> rw [e] <;> simp
    · rcases p3 with e | ⟨x, f, e, hx, hf⟩
      · rw [e]; intro q hq; cases hq
      · rw [e]; intro q hq
        rw [List.mem_singleton.mp hq]
        exact ⟨hw _ (List.mem_of_getElem? hx), hf⟩
def spListsG : Sp := fun vs H Q _ => ∃ (S c : Addr), vs = [.ref S, .int 2] ∧ StAt H S c ∧ ∀ H' q d s, Mv S c H H' → Rep H' 7 (fun b => H b = none) d (.ref q) → shD d s → okSh s → Q (.ref q) H'
def rep1 (H0 H' : Hp) (d : Addr) (l : List (Str × D)) (es : List (Key × V)) : Prop := Paired (fun (x : Str × D) (e : Key × V) => e.1 = Sum.inr x.1 ∧ Rep H' 6 (fun b => H0 b = none ∧ b ≠ d) x.2 e.2) l es
theorem ok__law_lists (T : Txt K mg C_Shape) (R : Prg K mg C_Shape) : ∃ f fd, Fn P w K mg base "_law_lists" 5 ["_law_stream_here", "_law_most"] spListsG f fd := by
  obtain ⟨_, _, G__law_names⟩ := ok__law_names (P := P) (w := w) (base := base) T R
  obtain ⟨_, _, G__law_draw⟩ := ok__law_draw (P := P) (w := w) (base := base) T R
  obtain ⟨_, _, G__law_fields⟩ := ok__law_fields (P := P) (w := w) (base := base) T R
  obtain ⟨f, fd, at_, F, kp⟩ := R._law_lists
  refine ⟨f, fd, F.ok sc__law_lists (fun vs H Q E h => ?_) (fun cdv A outer s H vs Q E hr h => ?_), at_, kp, F.binds (fun _ _ _ _ _ _ us hl => match us, hl with | [_, _], _ => rfl)⟩
  · obtain ⟨S, c, rfl, _⟩ := h; rfl
  · obtain ⟨S, c, rfl, st, k⟩ := h
    refine ⟨_, (pss_cons (ps_set (i := 2) sc__law_lists.nd rfl (Or.inl rfl) (pcl G__law_names hr (pa_cons (pv 0) (pa_cons pe_int (pa_cons (pe_lst pa_nil) pa_nil)))))
  (pss_cons (ps_set (i := 3) sc__law_lists.nd rfl (Or.inl rfl) pe_dnewK)
  (pss_cons (ps_for PassesOwn.never rfl (pi_range1 (by rfl) T.range (pa_cons (pe_ix (r := rIxT K) ix_tup (pe_tup (pa_cons pe_int (pa_cons pe_int (pa_cons pe_int (pa_cons pe_int (pa_cons pe_int pa_nil)))))) (pcl G__law_draw hr (pa_cons (pv 0) (pa_cons pe_int pa_nil))) (fun _ _ => rfl)) pa_nil)) (pg_name (i := 4) sc__law_lists.nd rfl (Or.inl rfl))
    (pss_cons (ps_set (i := 5) sc__law_lists.nd rfl (Or.inl rfl) pe_dnewK)
  (Evl.pss_cut (ps_if (pt_cmpR op_eq (pcl G__law_draw hr (pa_cons (pv 0) (pa_cons pe_int pa_nil))) pe_int (nomark _)) (pss_one (ps_dput (hu_of hr) (pv 5) (pe_ix (r := rIxL K) ix_list (pv 2) (pe_op op_add (pv 4) pe_int) (fun _ _ => rfl)) (pe_disp (pps_cons pe_str (pcl G__law_fields hr (pa_cons (pv 0) (pa_cons (pv 1) pa_nil))) (pps_cons pe_str pe_dnewK pps_nil)) (by rfl) (by rfl) (fun z => by cases z) (by decide)) rfl)) pss_nil)
  (pss_one (ps_dput (hu_of hr) (pv 3) (pe_ix (r := rIxL K) ix_list (pv 2) (pv 4) (fun _ _ => rfl)) (pe_disp (pps_cons pe_str (pcl G__law_fields hr (pa_cons (pv 0) (pa_cons (pv 1) pa_nil))) (pps_cons pe_str (pv 5) pps_nil)) (by rfl) (by rfl) (fun z => by cases z) (by decide)) rfl)))))
  (pss_one (ps_ret (pv 3)))))), ?_⟩
    refine ⟨_, rfl, (by show 0 ≤ sizeLine; decide), fun t0 ht0 => ⟨S, c, t0, 4, rfl, (Mv.new st ht0).z, by decide, by decide, upd_same, fun H1 q ws m1 hq hq1 lw wok wnd => ?_⟩⟩
    have m01 := (Mv.new (o := .lst []) st ht0).trans m1
    have hqn : H q = none := (Mv.new (o := .lst []) st ht0).back hq
    have qS := st.someS hqn
    have l4 : ws.length = 4 := by omega
    intro d hd
    have hdn : H d = none := m01.back hd
    have dS := st.someS hdn
    have nqd : q ≠ d := fun e => by rw [← e, hq1] at hd; cases hd
    have m02 := m01.tx (Ex.new (o := .dK []) hd)
    refine ⟨(by show 5 ≤ sizeLine; decide), fun tp htp => ?_⟩
    have m03 := m02.tx (Ex.new (o := .tup [.int 1, .int 1, .int 2, .int 0, .int 2]) htp)
    refine ⟨_, rfl, S, c, 5, rfl, m03.z, by decide, by decide, fun H4 r m4 r0 r1 => ?_⟩
    have m04 := m03.trans m4
    have hq4 : H4 q = some (.lst (ws.map V.str)) := m4.fr q _ qS.1 qS.2 (Ex.new htp _ _ (Ex.new hd _ _ hq1))
    have hd4 : H4 d = some (.dK []) := m4.fr d _ dS.1 dS.2 (Ex.new htp _ _ upd_same)
    obtain ⟨n, hn, n0, n2⟩ : ∃ n : Int, atI [V.int 1, .int 1, .int 2, .int 0, .int 2] r = some (.int n) ∧ 0 ≤ n ∧ n ≤ 2 := by
      rcases (by omega : r = 0 ∨ r = 1 ∨ r = 2 ∨ r = 3 ∨ r = 4) with rfl | rfl | rfl | rfl | rfl
      · exact ⟨1, rfl, by decide, by decide⟩
      · exact ⟨1, rfl, by decide, by decide⟩
      · exact ⟨2, rfl, by decide, by decide⟩
      · exact ⟨0, rfl, by decide, by decide⟩
      · exact ⟨2, rfl, by decide, by decide⟩
    refine ⟨tp, _, r, .int n, rfl, rfl, Evl.st_of (m4.tup upd_same), hn, n, rfl, by omega, by omega, ?_⟩
    refine for_it walk_range (fun i σ' H' => ∃ (es : List (Key × V)) (l : List (Str × D)) (s : Sh) (o4 o5 : Option V), σ' = [some (.ref S), some (.int 2), some (.ref q), some (.ref d), o4, o5] ∧ Mv S c H H' ∧ H' q = some (.lst (ws.map V.str)) ∧ H' d = some (.dK es) ∧ rep1 H H' d l es ∧
      Paired (fun (p : Str × D) (q : Str × Fl × List (Str × Fl)) => p.1 = q.1 ∧ ls1 p.2 q.2.1 q.2.2) l s ∧ s.length = i ∧ ∀ j p, s[j]? = some p → okJ ws j p) ⟨[], [], [], _, _, rfl, m04, hq4, hd4, .nil, .nil, rfl, fun j p h => (nomatch h)⟩ (fun _ _ _ _ _ => trivial) (fun i x σ' H0 H' hi pv y => ?_) fun σ' H' pv => ?_
    · obtain ⟨es, l, s, o4, o5, rfl, mH, hqH, hdH, pr, prs, ls, hj⟩ := pv
      obtain ⟨rfl, rfl⟩ := y
      show gName 4 (V.int ((0 : Int) + (i : Int))) _ _ _
      rw [Int.zero_add]
      have i2 : i < 2 := by omega
      obtain ⟨nm, hnm⟩ : ∃ nm, ws[i]? = some nm := ⟨_, List.getElem?_eq_getElem (by omega)⟩
      obtain ⟨nm2, hnm2⟩ : ∃ nm, ws[i + 2]? = some nm := ⟨_, List.getElem?_eq_getElem (by omega)⟩
      have at1 : atI (ws.map V.str) (i : Int) = some (.str nm) := atI_nat (by rw [List.getElem?_map, hnm]; rfl)
      have at2 : atI (ws.map V.str) ((i : Int) + 2) = some (.str nm2) := by
        have := atI_nat (xs := ws.map V.str) (j := i + 2) (v := .str nm2) (by rw [List.getElem?_map, hnm2]; rfl)
        rw [← this]; congr 1
      intro e he
      have hen := mH.back he
      have eS := st.someS hen
      have ned : e ≠ d := fun z => by rw [z, hdH] at he; cases he
      have neq : q ≠ e := fun z => by rw [← z, hqH] at he; cases he
      refine Evl.q_cut (M := fun σ' H2 => ∃ (el : List (Str × D)) (ii : List (Str × Fl)) (ie : List (Key × V)), σ' = [some (.ref S), some (.int 2), some (.ref q), some (.ref d), some (.int i), some (.ref e)] ∧ Mv S c H' H2 ∧ H2 e = some (.dK ie) ∧ el.length ≤ 1 ∧
        Paired (fun (x : Str × D) (en : Key × V) => en.1 = Sum.inr x.1 ∧ Rep H2 4 (fun b => H b = none ∧ b ≠ d ∧ b ≠ e) x.2 en.2) el ie ∧ Paired (fun (p : Str × D) (q : Str × Fl) => p.1 = q.1 ∧ ls0 p.2 q.2) el ii ∧ (ii = [] ∨ ∃ x f, ii = [(x, f)] ∧ ws[i + 2]? = some x ∧ okFl f)) ?_ ?_
      · have m5 := Mv.new (o := .dK []) mH.z he
        refine ⟨_, rfl, S, c, 2, rfl, m5.z, by decide, by decide, fun H6 r6 m6 _ _ => ⟨rfl, _, rfl, ?_⟩⟩
        have he6 : H6 e = some (.dK []) := m6.fr e _ eS.1 eS.2 upd_same
        have m06 := m5.trans m6
        refine ite2 (fun _ => ?_) (fun _ => ?_)
        · intro p1 hp1
          have m7 := Mv.new (o := .dK []) m6.z hp1
          refine ⟨_, rfl, _, rfl, S, c, rfl, m7.z, fun H8 fq ff m8 hff okf => ?_⟩
          intro e2 he2
          have p1S := m6.z.someS hp1
          have hp8 : H8 p1 = some (.dK []) := m8.fr p1 _ p1S.1 p1S.2 upd_same
          refine ⟨Ex.new he2 _ _ hp8, [(Sum.inr "fields", .ref fq), (Sum.inr "inner", .ref e2)], rfl, (by show 2 ≤ 15; decide), ?_⟩
          rw [merge2 nFI]
          have mA : Mv S c H6 (upd (upd H8 e2 (.dK [])) p1 (.dK [(Sum.inr "fields", .ref fq), (Sum.inr "inner", .ref e2)])) := ((m7.trans m8).tx (Ex.new he2)).mut hp1
          have heA := mA.fr e _ eS.1 eS.2 he6
          have hqA := mA.fr q _ qS.1 qS.2 (m06.fr q _ qS.1 qS.2 hqH)
          have np12 : p1 ≠ e2 := fun z => by rw [← z, hp8] at he2; cases he2
          have npe : p1 ≠ e := fun z => by rw [z, he6] at hp1; cases hp1
          have npd : p1 ≠ d := fun z => by rw [z, m06.fr d _ dS.1 dS.2 hdH] at hp1; cases hp1
          have he28 : H6 e2 = none := (m7.trans m8).back he2
          have n2e : e2 ≠ e := fun z => by rw [z, he6] at he28; cases he28
          have n2d : e2 ≠ d := fun z => by rw [z, m06.fr d _ dS.1 dS.2 hdH] at he28; cases he28
          have hpA : (upd (upd H8 e2 (.dK [])) p1 (.dK [(Sum.inr "fields", .ref fq), (Sum.inr "inner", .ref e2)])) p1 = some (.dK [(Sum.inr "fields", .ref fq), (Sum.inr "inner", .ref e2)]) := upd_same
          have heA2 : (upd (upd H8 e2 (.dK [])) p1 (.dK [(Sum.inr "fields", .ref fq), (Sum.inr "inner", .ref e2)])) e2 = some (.dK []) := by rw [upd_ne (Ne.symm np12), upd_same]
          have hfA : Rep (upd (upd H8 e2 (.dK [])) p1 (.dK [(Sum.inr "fields", .ref fq), (Sum.inr "inner", .ref e2)])) 3 (fun b => (H b = none ∧ b ≠ d ∧ b ≠ e) ∧ b ≠ p1) (flD ff) (.ref fq) := by
            have h7 : ∀ {b : Addr} {o : HO}, H6 b = some o → (upd H6 p1 (.dK [])) b ≠ none := fun {b o} hb => by
              rw [Ex.new hp1 _ _ hb]; exact fun z => nomatch z
            refine rep_upd (Ex.new he2 _ _ hp8) (fun _ z => nomatch z) (fun b hb => hb.2) (rep_ex (Ex.new he2) (rep_S (fun b hb => ⟨⟨(mH.trans (m06.trans m7)).back hb, fun z => ?_, fun z => ?_⟩, fun z => ?_⟩) hff))
            · rw [z] at hb; exact h7 (m06.fr d _ dS.1 dS.2 hdH) hb
            · rw [z] at hb; exact h7 he6 hb
            · rw [z, upd_same] at hb; cases hb
          generalize (upd (upd H8 e2 (.dK [])) p1 (.dK [(Sum.inr "fields", .ref fq), (Sum.inr "inner", .ref e2)])) = HA at mA heA hqA hpA heA2 hfA ⊢
          refine ⟨_, rfl, _, rfl, _, rfl, _, _, rfl, rfl, q, _, _, _, rfl, rfl, Evl.sq_of hqA, at2, e, _, rfl, .inl ⟨[], Sum.inr nm2, heA, rfl, (by show 0 < sizeLine; decide), rfl⟩, ?_⟩
          have up : ∀ {n : Nat} {x : D} {v : V}, Rep HA n (fun b => H b = none ∧ b ≠ d ∧ b ≠ e) x v → Rep (upd HA e (.dK (putK [] (Sum.inr nm2) (.ref p1)))) n (fun b => H b = none ∧ b ≠ d ∧ b ≠ e) x v := fun h => rep_upd heA (fun _ z => nomatch z) (fun b z => z.2.2) h
          have hp1n : H p1 = none := (mH.trans m06).back hp1
          have he2n : H e2 = none := (mH.trans m06).back he28
          refine ⟨[(nm2, .dic [("fields", flD ff), ("inner", .dic [])])], [(nm2, ff)], _, rfl, (m06.trans mA).mut he, upd_same, Nat.le_refl _, ?_, ?_, .inr ⟨nm2, ff, rfl, hnm2, okf⟩⟩
          · rw [putK_new _ (by rfl)]
            refine .cons ⟨rfl, ?_⟩ .nil
            have := up (n := 4) (x := .dic [("fields", flD ff), ("inner", .dic [])]) (v := .ref p1) ⟨p1, _, rfl, ⟨hp1n, npd, npe⟩, hpA, (by show 2 ≤ 100000; decide), .cons ⟨rfl, hfA⟩ (.cons ⟨rfl, e2, [], rfl, ⟨⟨he2n, n2d, n2e⟩, Ne.symm np12⟩, heA2, Nat.zero_le _, .nil⟩ .nil)⟩
            rw [putK_new _ (by rfl)] at this
            exact this
          · exact .cons ⟨rfl, _, rfl, rfl, lk2a, lk2b⟩ .nil
        · exact ⟨[], [], [], rfl, m06, he6, Nat.zero_le _, .nil, .nil, .inl rfl⟩
      · rintro σ' H2 ⟨el, ii, ie, rfl, m2, he2, el1, pe, pls, hii⟩
        have hq2 := m2.fr q _ qS.1 qS.2 hqH
        have hd2 := m2.fr d _ dS.1 dS.2 hdH
        intro p1 hp1
        have m7 := Mv.new (o := .dK []) m2.z hp1
        refine ⟨_, rfl, _, rfl, S, c, rfl, m7.z, fun H8 fq ff m8 hff okf => ?_⟩
        have p1S := m2.z.someS hp1
        have hp8 : H8 p1 = some (.dK []) := m8.fr p1 _ p1S.1 p1S.2 upd_same
        refine ⟨_, rfl, hp8, [(Sum.inr "fields", .ref fq), (Sum.inr "inner", .ref e)], rfl, (by show 2 ≤ 15; decide), ?_⟩
        rw [merge2 nFI]
        have mA : Mv S c H2 (upd H8 p1 (.dK [(Sum.inr "fields", .ref fq), (Sum.inr "inner", .ref e)])) := (m7.trans m8).mut hp1
        have heA := mA.fr e _ eS.1 eS.2 he2
        have hqA := mA.fr q _ qS.1 qS.2 hq2
        have hdA := mA.fr d _ dS.1 dS.2 hd2
        have npe : p1 ≠ e := fun z => by rw [z, he2] at hp1; cases hp1
        have npd : p1 ≠ d := fun z => by rw [z, hd2] at hp1; cases hp1
        have hpA : (upd H8 p1 (.dK [(Sum.inr "fields", .ref fq), (Sum.inr "inner", .ref e)])) p1 = some (.dK [(Sum.inr "fields", .ref fq), (Sum.inr "inner", .ref e)]) := upd_same
        have hfA : Rep (upd H8 p1 (.dK [(Sum.inr "fields", .ref fq), (Sum.inr "inner", .ref e)])) 3 (fun b => (H b = none ∧ b ≠ d) ∧ b ≠ p1) (flD ff) (.ref fq) := by
          refine rep_upd hp8 (fun _ z => nomatch z) (fun b hb => hb.2) (rep_S (fun b hb => ⟨⟨(mH.trans (m2.trans m7)).back hb, fun z => ?_⟩, fun z => ?_⟩) hff)
          · rw [z, Ex.new hp1 _ _ hd2] at hb; cases hb
          · rw [z, upd_same] at hb; cases hb
        have peA := pair_imp pe fun a b h => (⟨h.1, rep_mv mA (fun z => (st.someS z.1.1).1 rfl) (fun z => (st.someS z.1.1).2 rfl) (rep_Sd (S' := fun b => (H b = none ∧ b ≠ d ∧ b ≠ e) ∧ b ≠ p1) (fun b hb hb2 => ⟨hb, fun z => hb2 (by rw [z]; exact hp1)⟩) h.2)⟩ : b.1 = Sum.inr a.1 ∧ _)
        have prA : rep1 H (upd H8 p1 (.dK [(Sum.inr "fields", .ref fq), (Sum.inr "inner", .ref e)])) d l es := pair_imp pr fun a b h => ⟨h.1, rep_mv (m2.trans mA) (fun z => (st.someS z.1).1 rfl) (fun z => (st.someS z.1).2 rfl) h.2⟩
        generalize (upd H8 p1 (.dK [(Sum.inr "fields", .ref fq), (Sum.inr "inner", .ref e)])) = HA at mA heA hqA hdA hpA hfA peA prA ⊢
        have lk : l.map (·.1) = ws.take i := by
          refine List.ext_getElem? fun j => ?_
          rw [List.getElem?_map, List.getElem?_take]
          by_cases jl : j < i
          · rw [if_pos jl]
            cases hs : s[j]? with
            | none => exact absurd (List.getElem?_eq_none_iff.mp hs) (by omega)
            | some p =>
              obtain ⟨x, hx, h1, _⟩ := pair_back prs hs
              rw [hx, (hj j p hs).1]
              exact congrArg some h1
          · rw [if_neg jl, List.getElem?_eq_none_iff.mpr (by rw [pair_len prs, ls]; omega)]; rfl
        have nv : valV es (Sum.inr nm : Key) = none := pair_no (F := fun x v => Rep HA 6 (fun b => H b = none ∧ b ≠ d) x v) prA (lk_none (by rw [lk]; exact not_take wnd hnm))
        have les : es.length ≤ 2 := by rw [← pair_len pr, pair_len prs]; omega
        refine ⟨_, rfl, _, rfl, _, rfl, q, _, _, _, rfl, rfl, Evl.sq_of hqA, at1, d, _, rfl, .inl ⟨es, Sum.inr nm, hdA, rfl, Evl.sz_lt (by omega), rfl⟩, ?_⟩
        have hp1n : H p1 = none := (mH.trans m2).back hp1
        have up : ∀ {n : Nat} {x : D} {v : V}, Rep HA n (fun b => H b = none ∧ b ≠ d) x v → Rep (upd HA d (.dK (putK es (Sum.inr nm) (.ref p1)))) n (fun b => H b = none ∧ b ≠ d) x v := fun h => rep_upd hdA (fun _ z => nomatch z) (fun b z => z.2) h
        refine ⟨es ++ [(Sum.inr nm, .ref p1)], l ++ [(nm, .dic [("fields", flD ff), ("inner", .dic el)])], s ++ [(nm, ff, ii)], _, _, rfl, (mH.trans (m2.trans mA)).mut hdn, by rw [upd_ne nqd]; exact hqA, by rw [upd_same, putK_new _ nv], ?_, ?_, by rw [List.length_append, ls]; rfl, fun j p hp => ?_⟩
        · refine pair_snoc (pair_imp prA fun a b h => ⟨h.1, up h.2⟩) ⟨rfl, up (n := 6) ⟨p1, _, rfl, ⟨hp1n, npd⟩, hpA, (by show 2 ≤ 100000; decide), .cons ⟨rfl, rep_up (rep_up hfA)⟩ (.cons ⟨rfl, e, ie, rfl, ⟨⟨hen, ned⟩, Ne.symm npe⟩, heA, by omega, pair_imp peA fun a b h => ⟨h.1, rep_S (fun b hb => ⟨⟨⟨hb.1.1, hb.1.2.1⟩, hb.2⟩, hb.1.2.2⟩) h.2⟩⟩ .nil)⟩⟩
        · exact pair_snoc prs ⟨rfl, _, el, rfl, rfl, lk2a, lk2b, pls⟩
        · by_cases jl : j < s.length
          · rw [List.getElem?_append_left jl] at hp
            exact hj j p hp
          · rw [List.getElem?_append_right (by omega)] at hp
            have ej : j = i := by
              cases hc : j - s.length with
              | zero => omega
              | succ m => rw [hc] at hp; cases hp
            subst ej
            rw [ls, Nat.sub_self] at hp
            cases hp
            exact ⟨hnm, okf, hii⟩
    · obtain ⟨es, l, s, o4, o5, rfl, mH, hqH, hdH, pr, prs, ls, hj⟩ := pv
      have l2 : s.length ≤ 2 := by omega
      exact Evl.s_ret (Evl.ev_var rfl) fun H7 e7 => k H7 d (.dic l) s (mH.tx e7) (rep_ex e7 ⟨d, es, rfl, hdn, hdH, by rw [pair_len prs]; omega, pr⟩) ⟨l, rfl, prs⟩ (okSh_of wnd l4 wok l2 hj)
end
end Pk

namespace Pk
open PySem PySem.Spec PyProof.Rows L2 Ssb
open Evl (Ex Ev EvT EvL EvA EvU)
/-! ### data as a tree: parts at places of their own -/
def Tr (R : (Addr → Prop) → D → V → Prop) (S : Addr → Prop) (a : Addr) (ix : Addr → Nat) (l : List D) (xs : List V) : Prop := l.length = xs.length ∧ ∀ (i : Nat) (d : D) (x : V), l[i]? = some d → xs[i]? = some x → R (fun b => (S b ∧ b ≠ a) ∧ ix b = i) d x
def RepT (H : Hp) : Nat → (Addr → Prop) → D → V → Prop
  | 0, _, _, _ => False
  | _ + 1, _, .non, v => v = .non
  | _ + 1, _, .bl b, v => v = .bl b
  | _ + 1, _, .int i, v => v = .int i
  | _ + 1, _, .str s, v => v = .str s
  | n + 1, S, .lst l, v => ∃ a xs ix, v = .ref a ∧ S a ∧ H a = some (.lst xs) ∧ l.length ≤ 100000 ∧ Tr (fun S d v => RepT H n S d v) S a ix l xs
  | _ + 1, _, .tup _, _ => False
  | n + 1, S, .dic l, v => ∃ a es ix, v = .ref a ∧ S a ∧ H a = some (.dK es) ∧ l.length ≤ 100000 ∧ es.map (·.1) = l.map (fun q => (Sum.inr q.1 : Key)) ∧ Tr (fun S d v => RepT H n S d v) S a ix (l.map (·.2)) (es.map (·.2))
theorem tr_imp {R R' : (Addr → Prop) → D → V → Prop} {S S' : Addr → Prop} {a : Addr} {ix : Addr → Nat} {l : List D} {xs : List V} (h : ∀ i d x, R (fun b => (S b ∧ b ≠ a) ∧ ix b = i) d x → R' (fun b => (S' b ∧ b ≠ a) ∧ ix b = i) d x) (t : Tr R S a ix l xs) : Tr R' S' a ix l xs := ⟨t.1, fun i d x h1 h2 => h i d x (t.2 i d x h1 h2)⟩
theorem rt_to {H H' : Hp} : ∀ {n : Nat} {S : Addr → Prop} {d : D} {v : V}, (∀ b o, S b → H b = some o → H' b = some o) → RepT H n S d v → RepT H' n S d v
  | 0, _, _, _, _, h => h.elim
  | n + 1, S, d, v, k, h => by
    cases d with
    | non => exact h
    | bl b => exact h
    | int i => exact h
    | str s => exact h
    | tup l => exact h.elim
    | lst l =>
      obtain ⟨a, xs, ix, e, s, ha, hl, p⟩ := h
      exact ⟨a, xs, ix, e, s, k a _ s ha, hl, tr_imp (fun i d x r => rt_to (fun b o hb h => k b o hb.1.1 h) r) p⟩
    | dic l =>
      obtain ⟨a, es, ix, e, s, ha, hl, hk, p⟩ := h
      exact ⟨a, es, ix, e, s, k a _ s ha, hl, hk, tr_imp (fun i d x r => rt_to (fun b o hb h => k b o hb.1.1 h) r) p⟩
theorem rt_ex {H H' : Hp} {n : Nat} {S : Addr → Prop} {d : D} {v : V} (e : Ex H H') (h : RepT H n S d v) : RepT H' n S d v := rt_to (fun b o _ hb => e b o hb) h
theorem rt_S {H : Hp} : ∀ {n : Nat} {S S' : Addr → Prop} {d : D} {v : V}, (∀ b, S b → S' b) → RepT H n S d v → RepT H n S' d v
  | 0, _, _, _, _, _, h => h.elim
  | n + 1, S, S', d, v, k, h => by
    cases d with
    | non => exact h
    | bl b => exact h
    | int i => exact h
    | str s => exact h
    | tup l => exact h.elim
    | lst l =>
      obtain ⟨a, xs, ix, e, s, ha, hl, p⟩ := h
      exact ⟨a, xs, ix, e, k a s, ha, hl, tr_imp (fun i d x r => rt_S (fun b hb => ⟨⟨k b hb.1.1, hb.1.2⟩, hb.2⟩) r) p⟩
    | dic l =>
      obtain ⟨a, es, ix, e, s, ha, hl, hk, p⟩ := h
      exact ⟨a, es, ix, e, k a s, ha, hl, hk, tr_imp (fun i d x r => rt_S (fun b hb => ⟨⟨k b hb.1.1, hb.1.2⟩, hb.2⟩) r) p⟩
theorem rt_dom {H : Hp} : ∀ {n : Nat} {S : Addr → Prop} {d : D} {v : V}, RepT H n S d v → RepT H n (fun b => S b ∧ H b ≠ none) d v
  | 0, _, _, _, h => h.elim
  | n + 1, S, d, v, h => by
    cases d with
    | non => exact h
    | bl b => exact h
    | int i => exact h
    | str s => exact h
    | tup l => exact h.elim
    | lst l =>
      obtain ⟨a, xs, ix, e, s, ha, hl, p⟩ := h
      exact ⟨a, xs, ix, e, ⟨s, by rw [ha]; exact fun z => nomatch z⟩, ha, hl, tr_imp (fun i d x r => rt_S (fun b hb => ⟨⟨⟨hb.1.1.1, hb.2⟩, hb.1.1.2⟩, hb.1.2⟩) (rt_dom r)) p⟩
    | dic l =>
      obtain ⟨a, es, ix, e, s, ha, hl, hk, p⟩ := h
      exact ⟨a, es, ix, e, ⟨s, by rw [ha]; exact fun z => nomatch z⟩, ha, hl, hk, tr_imp (fun i d x r => rt_S (fun b hb => ⟨⟨⟨hb.1.1.1, hb.2⟩, hb.1.1.2⟩, hb.1.2⟩) (rt_dom r)) p⟩
theorem rt_Sd {H : Hp} {n : Nat} {S S' : Addr → Prop} {d : D} {v : V} (k : ∀ b, S b → H b ≠ none → S' b) (h : RepT H n S d v) : RepT H n S' d v := rt_S (fun b z => k b z.1 z.2) (rt_dom h)
theorem rt_up {H : Hp} : ∀ {n : Nat} {S : Addr → Prop} {d : D} {v : V}, RepT H n S d v → RepT H (n + 1) S d v
  | 0, _, _, _, h => h.elim
  | n + 1, S, d, v, h => by
    cases d with
    | non => exact h
    | bl b => exact h
    | int i => exact h
    | str s => exact h
    | tup l => exact h.elim
    | lst l =>
      obtain ⟨a, xs, ix, e, s, ha, hl, p⟩ := h
      exact ⟨a, xs, ix, e, s, ha, hl, tr_imp (fun i d x r => rt_up r) p⟩
    | dic l =>
      obtain ⟨a, es, ix, e, s, ha, hl, hk, p⟩ := h
      exact ⟨a, es, ix, e, s, ha, hl, hk, tr_imp (fun i d x r => rt_up r) p⟩
theorem pair_of {α β : Type} {F : α → β → Prop} : ∀ {l : List α} {m : List β}, l.length = m.length → (∀ (i : Nat) (a : α) (b : β), l[i]? = some a → m[i]? = some b → F a b) → Paired F l m
  | [], [], _, _ => .nil
  | [], _ :: _, h, _ => nomatch h
  | _ :: _, [], h, _ => nomatch h
  | a :: l, b :: m, h, k => .cons (k 0 a b rfl rfl) (pair_of (Nat.succ.inj h) fun i x y h1 h2 => k (i + 1) x y h1 h2)
theorem rt_rep {H : Hp} : ∀ {n : Nat} {S : Addr → Prop} {d : D} {v : V}, RepT H n S d v → Rep H n S d v
  | 0, _, _, _, h => h.elim
  | n + 1, S, d, v, h => by
    cases d with
    | non => exact h
    | bl b => exact h
    | int i => exact h
    | str s => exact h
    | tup l => exact h.elim
    | lst l =>
      obtain ⟨a, xs, ix, e, s, ha, hl, p⟩ := h
      exact ⟨a, xs, e, s, ha, hl, pair_of p.1 fun i d x h1 h2 => rep_S (fun b hb => hb.1.1) (rt_rep (p.2 i d x h1 h2))⟩
    | dic l =>
      obtain ⟨a, es, ix, e, s, ha, hl, hk, p⟩ := h
      have le : l.length = es.length := by have := p.1; rw [List.length_map, List.length_map] at this; exact this
      refine ⟨a, es, e, s, ha, hl, pair_of le fun i q en h1 h2 => ⟨?_, rep_S (fun b hb => hb.1) (rt_rep (p.2 i q.2 en.2 (by rw [List.getElem?_map, h1]; rfl) (by rw [List.getElem?_map, h2]; rfl)))⟩⟩
      have := congrArg (fun l => l[i]?) hk
      simp only [List.getElem?_map, h1, h2] at this
      exact Option.some.inj this
/-- one more part, younger than Hk -/
theorem tr_snoc {R : (Addr → Prop) → D → V → Prop} {S : Addr → Prop} {a : Addr} {ix : Addr → Nat} {l : List D} {xs : List V} {Hk : Hp} {d : D} {x : V} (mono : ∀ S S' d x, (∀ b, S b → S' b) → R S d x → R S' d x)
    (t : Tr R (fun b => S b ∧ Hk b ≠ none) a ix l xs) (h : R (fun b => (S b ∧ b ≠ a) ∧ Hk b = none) d x) : ∃ ix', Tr R S a ix' (l ++ [d]) (xs ++ [x]) := by
  refine ⟨fun b => if (Hk b).isNone = true then l.length else ix b, by rw [List.length_append, List.length_append, t.1]; rfl, fun i d' x' h1 h2 => ?_⟩
  by_cases hi : i < l.length
  · rw [List.getElem?_append_left hi] at h1
    rw [List.getElem?_append_left (by rw [← t.1]; exact hi)] at h2
    refine mono _ _ _ _ (fun b hb => ⟨⟨hb.1.1.1, hb.1.2⟩, ?_⟩) (t.2 i d' x' h1 h2)
    have : ¬ (Hk b).isNone = true := by
      cases e : Hk b with
      | none => exact absurd e hb.1.1.2
      | some o => exact fun z => nomatch z
    show (if (Hk b).isNone = true then l.length else ix b) = i
    rw [if_neg this]; exact hb.2
  · rw [List.getElem?_append_right (by omega)] at h1
    rw [List.getElem?_append_right (by rw [← t.1]; omega)] at h2
    have ei : i = l.length := by
      cases hc : i - l.length with
      | zero => omega
      | succ m => rw [hc] at h1; cases h1
    subst ei
    rw [Nat.sub_self] at h1
    rw [← t.1, Nat.sub_self] at h2
    cases h1
    cases h2
    refine mono _ _ _ _ (fun b hb => ⟨hb.1, ?_⟩) h
    show (if (Hk b).isNone = true then l.length else ix b) = l.length
    rw [if_pos (by rw [hb.2]; rfl)]
theorem rt_mv {S c : Addr} {H H' : Hp} (m : Mv S c H H') {n : Nat} {P : Addr → Prop} {d : D} {v : V} (n1 : ¬ P S) (n2 : ¬ P c) (h : RepT H n P d v) : RepT H' n P d v :=
  rt_to (fun b o hp hb => m.fr b o (fun e => n1 (by rw [← e]; exact hp)) (fun e => n2 (by rw [← e]; exact hp)) hb) h
theorem rt_upd {H : Hp} {n : Nat} {S : Addr → Prop} {d : D} {v : V} {a : Addr} {u : HO} (hS : ∀ b, S b → b ≠ a) (h : RepT H n S d v) : RepT (upd H a u) n S d v :=
  rt_to (fun b o hb h => by rw [upd_ne (hS b hb)]; exact h) h
/-! ### generated rows -/
def upS (i : List (Str × Fl)) : Sh := i.map fun q => (q.1, q.2, [])
def rowD (id : Int) (fs ls : List (Str × D)) : D := .dic [("id", .int id), ("fields", .dic fs), ("lists", .dic ls)]
def okF2 (f : Fl) (fs : List (Str × D)) : Prop := okFs f fs ∧ (fs.map (·.1)).Nodup ∧ ∀ p ∈ fs, ∃ x, p.2 = .str x
def gR : Nat → Fl → List (Str × Fl) → D → Prop
  | 0, _, _, _ => False
  | m + 1, f, i, d => ∃ (rs : List D) (ids : List Int), d = .lst rs ∧ ids.Nodup ∧ rs.length ≤ 6 ∧ Paired (fun (row : D) (id : Int) => ∃ fs ls, row = rowD id fs ls ∧ 0 ≤ id ∧ id ≤ 1000000 ∧ okF2 f fs ∧ Paired (fun (p : Str × D) (q : Str × Fl × List (Str × Fl)) => p.1 = q.1 ∧ gR m q.2.1 q.2.2 p.2) ls (upS i)) rs ids
def gRow (m : Nat) (f : Fl) (i : List (Str × Fl)) (row : D) (id : Int) : Prop := ∃ fs ls, row = rowD id fs ls ∧ 0 ≤ id ∧ id ≤ 1000000 ∧ okF2 f fs ∧ Paired (fun (p : Str × D) (q : Str × Fl × List (Str × Fl)) => p.1 = q.1 ∧ gR m q.2.1 q.2.2 p.2) ls (upS i)
theorem lk_of_mem {α : Type} : ∀ {l : List (Str × α)} {k : Str} {x : α}, (l.map (·.1)).Nodup → (k, x) ∈ l → l.lookup k = some x
  | (j, d) :: l, k, x, nd, h => by
    rw [List.map_cons, List.nodup_cons] at nd
    rw [lk_cons]
    rcases List.mem_cons.mp h with h | h
    · cases h; rw [if_pos rfl]
    · rw [if_neg (fun e => nd.1 (by rw [← e]; exact List.mem_map.mpr ⟨_, h, rfl⟩))]
      exact lk_of_mem nd.2 h
theorem okF2_of {f : Fl} {fs : List (Str × D)} {ys : List Str} (hf : (f.map (·.1)).Nodup) (perm : ys.Perm (f.map (·.1))) (hk : fs.map (·.1) = ys) (hv : ∀ p ∈ fs, ∃ x ws, p.2 = .str x ∧ (p.1, ws) ∈ f ∧ x ∈ ws) : okF2 f fs := by
  have nd : (fs.map (·.1)).Nodup := by rw [hk]; exact perm.nodup_iff.mpr hf
  refine ⟨⟨?_, fun p hp => ?_⟩, nd, fun p hp => ?_⟩
  · have := perm.length_eq
    rw [← hk, List.length_map, List.length_map] at this
    exact this
  · have : p.1 ∈ fs.map (·.1) := by rw [hk]; exact perm.mem_iff.mpr (List.mem_map.mpr ⟨p, hp, rfl⟩)
    obtain ⟨e, he, e1⟩ := List.mem_map.mp this
    obtain ⟨x, ws, hx, hm, hw⟩ := hv e he
    refine ⟨x, lk_of_mem nd (by rw [← e1, ← hx]; exact he), ?_⟩
    have h1 := lk_of_mem hf hm
    have h2 := lk_of_mem hf (show (e.1, p.2) ∈ f by rw [e1]; exact hp)
    rw [h1] at h2
    cases h2
    exact hw
  · obtain ⟨x, ws, hx, _⟩ := hv p hp
    exact ⟨x, hx⟩
end Pk

namespace Pk
open PySem PySem.Spec PyProof.Rows L2 Ssb
open Evl (Ex Ev EvT EvL EvA EvU)
def rSortDK : List V → Hp → VK → Prop := fun xs H Q => ∃ (a : Addr) (kvs : List (Key × V)) (ks : List Str), xs = [.ref a] ∧ Rd H a (.dK kvs) ∧ kvs.map (·.1) = ks.map Sum.inr ∧ ks.length < 64 ∧ ∀ ys p, ys.Perm ks → sortedS ys = true → H p = none → Q (.ref p) (upd H p (.lst (ys.map V.str)))
theorem el_lcM {K : PySem.W.Frag} {σ : L2.St} {H : Hp} {te tl : TE} {vs : List Nat} {j : Nat} {a : Addr} {xs zs : List V} (h : Ev tl σ H (.ref a)) (hx : SqL K H a xs) (hz : xs.length ≤ 100000) (hl : zs.length = xs.length) (hw : ∀ x, wipe ((wipe σ vs).set j (some x)) vs = wipe σ vs)
    (he : ∀ (i : Nat) (x z : V), xs[i]? = some x → zs[i]? = some z → ∀ H2, Ex H H2 → Ev te ((wipe σ vs).set j (some x)) H2 z) : EvL (tLc (iList K tl) (gName j) tYes te vs) σ H zs := by
  have := el_lcA (K := K) (te := te) (vs := vs) (j := j) (f := fun i => (zs[i]?).getD .non) h hx hz hw fun i x hi H2 e2 => ?_
  · rw [map_range (g := _root_.id) hl (fun i a ha => by rw [ha]; rfl), List.map_id] at this
    exact this
  · have hj : i < zs.length := by rw [hl]; exact (List.getElem?_eq_some_iff.mp hi).1
    rw [List.getElem?_eq_getElem hj]
    exact he i x _ hi (List.getElem?_eq_getElem hj) H2 e2
theorem StAt.upd {S c p : Addr} {H : Hp} {o : HO} (n : p ≠ S ∧ p ≠ c) (h : StAt H S c) : StAt (L2.upd H p o) S c := by
  obtain ⟨ne, k, cs, h1, h2, h3⟩ := h
  exact ⟨ne, k, cs, by rw [upd_ne n.1.symm]; exact h1, by rw [upd_ne n.2.symm]; exact h2, h3⟩
theorem nIF : ¬ (("id" : Str) = "fields") := by decide +kernel
theorem nIL : ¬ (("id" : Str) = "lists") := by decide +kernel
theorem nFL : ¬ (("fields" : Str) = "lists") := by decide +kernel
theorem lkR1 {d1 d2 d3 : D} : List.lookup ("id" : Str) [(("id" : Str), d1), (("fields" : Str), d2), (("lists" : Str), d3)] = some d1 := by rw [lk_cons, if_pos rfl]
theorem lkR2 {d1 d2 d3 : D} : List.lookup ("fields" : Str) [(("id" : Str), d1), (("fields" : Str), d2), (("lists" : Str), d3)] = some d2 := by rw [lk_cons, if_neg (fun e => nIF e.symm), lk_cons, if_pos rfl]
theorem lkR3 {d1 d2 d3 : D} : List.lookup ("lists" : Str) [(("id" : Str), d1), (("fields" : Str), d2), (("lists" : Str), d3)] = some d3 := by rw [lk_cons, if_neg (fun e => nIL e.symm), lk_cons, if_neg (fun e => nFL e.symm), lk_cons, if_pos rfl]
theorem vV_no : ∀ {es : List (Key × V)} {k : Key}, k ∉ es.map (·.1) → valV es k = none
  | [], _, _ => rfl
  | e :: es, k, h => by
    rw [vV_cons, if_neg (fun z => h (by rw [← z]; exact List.mem_cons_self))]
    exact vV_no fun z => h (List.mem_cons_of_mem _ z)
theorem inr_not {ks : List Str} {k : Str} (h : k ∉ ks) : (Sum.inr k : Key) ∉ ks.map Sum.inr := fun hm => by
  obtain ⟨x, hx, e⟩ := List.mem_map.mp hm
  exact h (by rw [← Sum.inr.inj e]; exact hx)
theorem spare_int (ids : List Int) : ∃ j : Int, (Evl.given ((((ids.map V.int).length : Int) + 1).toNat) (fun j : Nat => !inV (V.int (j : Int)) (ids.map V.int)) (fun j : Nat => V.int (j : Int)))[0]? = some (.int j) ∧ 0 ≤ j ∧ j ≤ (ids.length : Int) ∧ j ∉ ids := by
  have en : (((ids.map V.int).length : Int) + 1).toNat = ids.length + 1 := by rw [List.length_map]; omega
  rw [en]
  unfold Evl.given
  cases hc : (List.range (ids.length + 1)).filter (fun j : Nat => !inV (V.int (j : Int)) (ids.map V.int)) with
  | nil =>
    exfalso
    have sub : ∀ x ∈ (List.range (ids.length + 1)).map (fun j : Nat => (j : Int)), x ∈ ids := fun x hx => by
      obtain ⟨j, hj, rfl⟩ := List.mem_map.mp hx
      have := List.filter_eq_nil_iff.mp hc j hj
      exact inV_ints.mp (by simpa using this)
    have nd : ((List.range (ids.length + 1)).map (fun j : Nat => (j : Int))).Nodup := List.Pairwise.map _ (fun a b h z => h (Int.ofNat.inj z)) List.nodup_range
    have := pigeon nd sub
    rw [List.length_map, List.length_range] at this
    omega
  | cons z zs =>
    have hz : z ∈ (List.range (ids.length + 1)).filter (fun j : Nat => !inV (V.int (j : Int)) (ids.map V.int)) := by rw [hc]; exact List.mem_cons_self
    obtain ⟨h1, h2⟩ := List.mem_filter.mp hz
    have h3 := List.mem_range.mp h1
    refine ⟨(z : Int), rfl, by omega, by omega, fun hm => ?_⟩
    rw [inV_ints.mpr hm] at h2
    cases h2
section
variable {P : Program} {w : World} {K : PySem.W.Frag} {mg : Str → Option Value} {base : Heap} {C_Shape : Addr}
def spLr (m : Nat) : Sp := fun vs H Q _ => ∃ (S c : Addr) (v : V) (n : Nat) (P : Addr → Prop) (d : D) (f : Fl) (i : List (Str × Fl)), vs = [.ref S, v, .int 6] ∧ StAt H S c ∧ Rep H n P d v ∧ ¬ P S ∧ ¬ P c ∧ ls1 d f i ∧ okFl f ∧ (i.map (·.1)).Nodup ∧ i.length ≤ 60 ∧ (∀ q ∈ i, okFl q.2) ∧ (m ≤ 1 → i = []) ∧ 1 ≤ m ∧
  ∀ H' q rd, Mv S c H H' → RepT H' (3 * m + 1) (fun b => H b = none) rd (.ref q) → gR m f i rd → Q (.ref q) H'
theorem ok__law_rows0 (T : Txt K mg C_Shape) (R : Prg K mg C_Shape) : ∃ f fd, Fn P w K mg base "_law_rows" 1 ["_law_stream_here", "_law_described", "_law_most"] (spLr 0) f fd := by
  obtain ⟨f, fd, at_, F, kp⟩ := R._law_rows
  refine ⟨f, fd, F.ok sc__law_rows (fun vs H Q E h => ?_) (fun cdv A outer s H vs Q E hr h => ?_), at_, kp, F.binds (fun _ _ _ _ _ _ us hl => match us, hl with | [_, _, _], _ => rfl)⟩
  · obtain ⟨S, c, v, n, P, d, f, i, rfl, _⟩ := h; rfl
  · obtain ⟨S, c, v, n, P, d, f, i, rfl, _, _, _, _, _, _, _, _, _, _, h, _⟩ := h; exact absurd h (by decide)
theorem ok__law_rows (T : Txt K mg C_Shape) (R : Prg K mg C_Shape) {m lv : Nat} (hlv : 1 ≤ lv) (G0 : ∃ f fd, Fn P w K mg base "_law_rows" lv ["_law_stream_here", "_law_described", "_law_most"] (spLr m) f fd) : ∃ f fd, Fn P w K mg base "_law_rows" (lv + 1) ["_law_stream_here", "_law_described", "_law_most"] (spLr (m + 1)) f fd := by
  obtain ⟨_, _, G__law_rows⟩ := G0
  obtain ⟨_, _, G__law_draw⟩ := ok__law_draw (P := P) (w := w) (base := base) T R
  obtain ⟨f, fd, at_, F, kp⟩ := R._law_rows
  refine ⟨f, fd, F.ok sc__law_rows (fun vs H Q E h => ?_) (fun cdv A outer s H vs Q E hr h => ?_), at_, kp, F.binds (fun _ _ _ _ _ _ us hl => match us, hl with | [_, _, _], _ => rfl)⟩
  · obtain ⟨S, c, v, n, P, d, f, i, rfl, _⟩ := h; rfl
  · obtain ⟨S, c, v, n, PP, dd, fl, ii, rfl, st, hv, nS, nc, ⟨dl, de, rfl, _, dlf, dli, pls⟩, okf, ind, i60, iok, hm0, _, k⟩ := h
    cases n with
    | zero => exact hv.elim
    | succ n =>
    obtain ⟨dv, des, rfl, Pdv, hdv, _, dpr⟩ := id hv
    obtain ⟨vf, hvf, hrf⟩ := rep_entry dpr dlf
    obtain ⟨vi, hvi, hri⟩ := rep_entry dpr dli
    cases n with
    | zero => exact hrf.elim
    | succ n =>
    obtain ⟨fa, fes, rfl, Pfa, hfa, _, fpr⟩ := id hrf
    obtain ⟨ia, ies, rfl, Pia, hia, _, ipr⟩ := id hri
    have dvS : dv ≠ S ∧ dv ≠ c := ⟨fun e => nS (e ▸ Pdv), fun e => nc (e ▸ Pdv)⟩
    have faS : fa ≠ S ∧ fa ≠ c := ⟨fun e => nS (e ▸ Pfa.1), fun e => nc (e ▸ Pfa.1)⟩
    have iaS : ia ≠ S ∧ ia ≠ c := ⟨fun e => nS (e ▸ Pia.1), fun e => nc (e ▸ Pia.1)⟩
    refine ⟨_, (pss_cons (ps_set (i := 3) sc__law_rows.nd rfl (Or.inl rfl) (pe_lst pa_nil))
  (pss_cons (ps_for PassesOwn.never rfl (pi_range1 (by rfl) T.range (pa_cons (pcl G__law_draw hr (pa_cons (pv 0) (pa_cons (pe_op op_add (pv 2) pe_int) pa_nil))) pa_nil)) (pg_name (i := 4) sc__law_rows.nd rfl (Or.inl rfl))
    (pss_cons (ps_set (i := 5) sc__law_rows.nd rfl (Or.inr rfl) (pe_lc (own := [("_law_row", 11)]) rfl sc__law_rows.nd (show PI _ _ _ (iList K _) from pi_list (pv 3)) (blkOk_by (own := [("_law_row", 11)]) (N := ["_law_stream_here", "_law_described", "_law_most", "_law_rows_here", "_law_k", "_law_taken", "_law_number", "_law_fields_here", "_law_name", "_law_words", "_law_lists_here", "_law_row", "_law_spare"]) (sc := defScope s__law_rows) (by decide +kernel)) (fun _ _ _ _ _ => (pg_name (i := 11) sc__law_rows.nd rfl (Or.inl rfl))) (fun _ _ _ _ _ => pts_nil) (fun _ _ _ _ _ => (pe_dget (hu_of hr) (pv 11) pe_str (fun _ _ => rfl)))))
  (pss_cons (ps_set (i := 6) sc__law_rows.nd rfl (Or.inl rfl) (pcl G__law_draw hr (pa_cons (pv 0) (pa_cons pe_int pa_nil))))
  (Evl.pss_cut (ps_if (pt_cmpR op_eq (pcl G__law_draw hr (pa_cons (pv 0) (pa_cons pe_int pa_nil))) pe_int (nomark _)) (pss_one (ps_set (i := 6) sc__law_rows.nd rfl (Or.inl rfl) (pcl G__law_draw hr (pa_cons (pv 0) (pa_cons pe_int pa_nil))))) pss_nil)
  (Evl.pss_cut (ps_if (pt_cmpR (r := rIn K false) op_in_seq (pv 6) (pv 5) (by rfl)) (pss_one (ps_set (i := 6) sc__law_rows.nd rfl (Or.inl rfl) (pe_ix (r := rIxL K) ix_list (pe_lc (own := [("_law_spare", 12)]) rfl sc__law_rows.nd (pi_range1 (by rfl) T.range (pa_cons (pe_op op_add (pe_callB (r := rLenA K) call_len (by rfl) T.len (by decide +kernel) (pa_cons (pv 5) pa_nil)) pe_int) pa_nil)) (blkOk_by (own := [("_law_spare", 12)]) (N := ["_law_stream_here", "_law_described", "_law_most", "_law_rows_here", "_law_k", "_law_taken", "_law_number", "_law_fields_here", "_law_name", "_law_words", "_law_lists_here", "_law_row", "_law_spare"]) (sc := defScope s__law_rows) (by decide +kernel)) (fun _ _ _ _ _ => (pg_name (i := 12) sc__law_rows.nd rfl (Or.inl rfl))) (fun _ _ _ _ _ => (pts_one (pt_cmpR (r := rIn K true) op_notIn_seq (pv 12) (pv 5) (by rfl)))) (fun _ _ _ _ _ => (pv 12))) pe_int (fun _ _ => rfl)))) pss_nil)
  (pss_cons (ps_set (i := 7) sc__law_rows.nd rfl (Or.inl rfl) pe_dnewK)
  (pss_cons (ps_for PassesOwn.never rfl (show PI _ _ _ (iList K _) from pi_list (pe_callB (r := rSortDK) (call_sortedD rfl) (by rfl) T.sorted (by decide +kernel) (pa_cons (pe_dget (hu_of hr) (pv 1) pe_str (fun _ _ => rfl)) pa_nil))) (pg_name (i := 8) sc__law_rows.nd rfl (Or.inl rfl))
    (pss_cons (ps_set (i := 9) sc__law_rows.nd rfl (Or.inl rfl) (pe_dget (hu_of hr) (pe_dget (hu_of hr) (pv 1) pe_str (fun _ _ => rfl)) (pv 8) (fun _ _ => rfl)))
  (pss_one (ps_dput (hu_of hr) (pv 7) (pv 8) (pe_ix (r := rIxT K) ix_tup (pv 9) (pcl G__law_draw hr (pa_cons (pv 0) (pa_cons (pe_callB (r := rLenA K) call_len (by rfl) T.len (by decide +kernel) (pa_cons (pv 9) pa_nil)) pa_nil))) (fun _ _ => rfl)) rfl))))
  (pss_cons (ps_set (i := 10) sc__law_rows.nd rfl (Or.inl rfl) pe_dnewK)
  (pss_cons (ps_lock (ps_for PassesOwn.never rfl (pi_keys (pe_dget (hu_of hr) (pv 1) pe_str (fun _ _ => rfl))) (pg_name (i := 8) sc__law_rows.nd rfl (Or.inl rfl))
    (pss_one (ps_dput (hu_of hr) (pv 10) (pv 8) (pcl G__law_rows hr (pa_cons (pv 0) (pa_cons (pe_dget (hu_of hr) (pe_dget (hu_of hr) (pv 1) pe_str (fun _ _ => rfl)) (pv 8) (fun _ _ => rfl)) (pa_cons (pv 2) pa_nil)))) rfl))))
  (pss_one (ps_expr (show PE _ _ (tBM K _ _ _ _) from pe_bm PySem.F.plainAttrs_list PySem.F.slot_list_append PySem.F.type_list_append mt_append (pv 3) (pa_cons (pe_disp (pps_cons pe_str (pv 6) (pps_cons pe_str (pv 7) (pps_cons pe_str (pv 10) pps_nil))) (by rfl) (by rfl) (fun z => by cases z) (by decide)) pa_nil)))))))))))))
  (pss_one (ps_ret (pv 3))))), ?_⟩
    refine Evl.q_asgL (xs := []) (Evl.el_lst Evl.ea_nil (Nat.zero_le _)) fun q H1 hq e1 hq1 => ?_
    have qS := st.someS hq
    have m01 := Mv.ex st e1
    refine ⟨_, rfl, _, rfl, _, _, rfl, rfl, S, c, 7, rfl, m01.z, by decide, by decide, fun H2 r m2 r0 r1 => ⟨r, rfl, by omega, by omega, ?_⟩⟩
    refine for_it walk_range (fun i σ' H' => ∃ (xs : List V) (rs : List D) (ids : List Int) (ix : Addr → Nat) (o4 o5 o6 o7 o8 o9 o10 : Option V), σ' = [some (.ref S), some (.ref dv), some (.int 6), some (.ref q), o4, o5, o6, o7, o8, o9, o10, none, none] ∧ Mv S c H H' ∧ H' q = some (.lst xs) ∧
      Tr (fun S d v => RepT H' (3 * m + 3) S d v) (fun b => H b = none) q ix rs xs ∧ ids.Nodup ∧ rs.length = i ∧ Paired (gRow m fl ii) rs ids) ⟨[], [], [], fun _ => 0, _, _, _, _, _, _, _, rfl, m01.trans m2, m2.fr q _ qS.1 qS.2 hq1, ⟨rfl, fun i d x h => (nomatch h)⟩, List.nodup_nil, rfl, .nil⟩ (fun _ _ _ _ _ => trivial) (fun i x σ' H0 H' hi pv y => ?_) fun σ' H' pv => ?_
    · obtain ⟨xs, rs, ids, ix, o4, o5, o6, o7, o8, o9, o10, rfl, mH, hqH, tr, ndi, lrs, prs⟩ := pv
      obtain ⟨rfl, rfl⟩ := y
      show gName 4 (V.int ((0 : Int) + (i : Int))) _ _ _
      rw [Int.zero_add]
      have i6 : i ≤ 6 := by omega
      have lids : ids.length = i := by rw [← pair_len prs]; exact lrs
      have lxs : xs.length = i := by rw [← tr.1]; exact lrs
      -- taken
      refine Evl.q_asgL (xs := ids.map V.int) (el_lcM (Evl.ev_var rfl) (Evl.sq_of hqH) (by omega) (by rw [List.length_map]; omega) (fun _ => rfl) fun j x z hx hz H3 e3 => ?_) fun t5 H3 ht5 e3 ht53 => ?_
      · rw [List.getElem?_map] at hz
        cases hid : ids[j]? with
        | none => rw [hid] at hz; cases hz
        | some id =>
        rw [hid] at hz
        cases hz
        obtain ⟨row, hrow, fs, ls, rfl, _⟩ := pair_back prs hid
        have hr0 := rt_rep (tr.2 j _ x hrow hx)
        obtain ⟨ra, res, rfl, _, hra, _, rpr⟩ := hr0
        obtain ⟨vid, hvid, hrid⟩ := rep_entry rpr lkR1
        have e : vid = .int id := hrid
        subst e
        exact ev_get (Evl.ev_var rfl) Evl.ev_c (.inl (e3 _ _ hra)) hvid
      have t5S : t5 ≠ S ∧ t5 ≠ c := mH.z.someS ht5
      have m3 : Mv S c H' H3 := .ex mH.z e3
      -- number
      refine ⟨_, rfl, S, c, 5, rfl, m3.z, by decide, by decide, fun H4 r4 m4 s0 s1 => ?_⟩
      refine Evl.q_cut (M := fun σ' Hx => ∃ nn : Int, σ' = [some (.ref S), some (.ref dv), some (.int 6), some (.ref q), some (.int i), some (.ref t5), some (.int nn), o7, o8, o9, o10, none, none] ∧ Mv S c H3 Hx ∧ 0 ≤ nn ∧ nn ≤ 1000000) ?_ ?_
      · refine ⟨_, rfl, S, c, 4, rfl, m4.z, by decide, by decide, fun H5 r5 m5 _ _ => ⟨rfl, _, rfl, ite2 (fun _ => ?_) (fun _ => ?_)⟩⟩
        · exact ⟨_, rfl, S, c, 1000001, rfl, m5.z, by decide, by decide, fun H6 r6 m6 u0 u1 => ⟨r6, rfl, m4.trans (m5.trans m6), u0, by omega⟩⟩
        · exact ⟨r4, rfl, m4.trans m5, s0, by omega⟩
      rintro σ' H5 ⟨n1, rfl, m5, n10, n11⟩
      refine Evl.q_cut (M := fun σ' Hx => ∃ nn : Int, σ' = [some (.ref S), some (.ref dv), some (.int 6), some (.ref q), some (.int i), some (.ref t5), some (.int nn), o7, o8, o9, o10, none, none] ∧ Mv S c H' Hx ∧ 0 ≤ nn ∧ nn ≤ 1000000 ∧ nn ∉ ids) ?_ ?_
      · have ht55 := m5.fr t5 _ t5S.1 t5S.2 ht53
        refine Evl.s_when (Evl.et_test (Evl.ev_op (Evl.ev_var rfl) (Evl.ev_var rfl) (Evl.rv_isL (Evl.sq_of ht55) rfl (flat_ints ids)))) (fun _ H6 e6 => ?_) (fun hb H6 e6 => ?_)
        · obtain ⟨j, hj, j0, j1, nj⟩ := spare_int ids
          refine Evl.s_asg (v := .int j) (Evl.ev_opL1 (Evl.el_lcR1 _ _ (Evl.ea_cons (Evl.ev_op (ev_lenL (Evl.ev_var rfl) (.inl (Evl.sq_of (e6 _ _ ht55)))) Evl.ev_c Evl.rv_I0) Evl.ea_nil) ⟨by omega, by rw [List.length_map]; omega⟩ (fun _ => rfl) (fun i H7 e7 _ => Evl.et_test (Evl.ev_op (Evl.ev_var rfl) (Evl.ev_var rfl) (Evl.rv_niL (Evl.sq_of ((e6.trans e7) _ _ ht55)) rfl (flat_ints ids)))) (fun i H7 e7 _ _ => Evl.ev_var rfl)) (fun _ _ => Evl.ev_c) fun p2 H7 hp7 e7 => Evl.rv_ixL (Evl.sq_of hp7) (atI_nat hj)) fun H7 e7 => ?_
          exact ⟨j, rfl, m3.trans ((m5.tx e6).tx e7), j0, by omega, nj⟩
        · refine ⟨n1, rfl, m3.trans (m5.tx e6), n10, n11, fun hm => ?_⟩
          rw [inV_ints.mpr hm] at hb
          cases hb
      rintro σ' H6 ⟨nn, rfl, m6, nn0, nn1, nnid⟩
      clear m5 m4 m3 ht53 e3 ht5 t5S n10 n11
      -- fields
      intro a7 h7
      have h7n := m6.back h7
      have a7S := m6.z.someS h7
      have mH6 := mH.trans m6
      have hx6 : ∀ {b : Addr} {o : HO} {Hx : Hp}, Mv S c H6 Hx → b ≠ S ∧ b ≠ c → H b = some o → Hx b = some o := fun mx nb hb => (mH6.trans mx).fr _ _ nb.1 nb.2 hb
      have m7 := Mv.new (o := .dK []) m6.z h7
      have keysf : fes.map (·.1) = (fl.map (·.1)).map Sum.inr := by
        have key : ∀ {f : Fl} {es : List (Key × V)}, Paired (fun (q' : Str × D) (e : Key × V) => e.1 = Sum.inr q'.1 ∧ Rep H n (fun b => (PP b ∧ b ≠ dv) ∧ b ≠ fa) q'.2 e.2) (f.map fun p => (p.1, D.tup (p.2.map .str))) es → es.map (·.1) = (f.map (·.1)).map (Sum.inr : Str → Key) := by
          intro f
          induction f with
          | nil => intro es p; cases p; rfl
          | cons x f ih =>
            intro es p
            rw [List.map_cons] at p
            cases p with
            | cons h t => rw [List.map_cons, List.map_cons, List.map_cons, ih t, h.1]
        exact key fpr
      have cho := flD_cho hrf
      refine ev_get (Evl.ev_var rfl) Evl.ev_c (.inl (hx6 m7 dvS hdv)) hvf _ (Ex.refl _) _ fun H8 e8 => ?_
      have m8 := m7.tx e8
      refine ⟨fa, fes, _, rfl, .inl (hx6 m8 faS hfa), keysf, by rw [List.length_map]; have := okf.1; omega, fun ys p perm _ hp => ?_⟩
      have pS := m8.z.someS hp
      have m9 := m8.tx (Ex.new (o := .lst (ys.map V.str)) hp)
      have ysnd : ys.Nodup := perm.nodup_iff.mpr okf.2.1
      have h78 : (upd H8 p (.lst (ys.map V.str))) a7 = some (.dK []) := Ex.new hp _ _ (e8 _ _ upd_same)
      have np7 : p ≠ a7 := fun e => by rw [e, e8 _ _ upd_same] at hp; cases hp
      refine ⟨p, rfl, ⟨_, Evl.sq_of upd_same⟩, for_list (K := K) (a := p) (xs := ys.map V.str) (fun j σ' Hx => ∃ (fs : List (Str × D)) (es : List (Key × V)) (o8 o9 : Option V), σ' = [some (.ref S), some (.ref dv), some (.int 6), some (.ref q), some (.int i), some (.ref t5), some (.int nn), some (.ref a7), o8, o9, o10, none, none] ∧ Mv S c H6 Hx ∧ Hx p = some (.lst (ys.map V.str)) ∧ Hx a7 = some (.dK es) ∧
        fs.map (·.1) = ys.take j ∧ es.map (·.1) = (ys.take j).map Sum.inr ∧ Paired (fun (x : D) (v : V) => ∃ s, x = .str s ∧ v = .str s) (fs.map (·.2)) (es.map (·.2)) ∧ ∀ p ∈ fs, ∃ x ws, p.2 = .str x ∧ (p.1, ws) ∈ fl ∧ x ∈ ws) ⟨[], [], _, _, rfl, m9, upd_same, h78, rfl, rfl, .nil, fun p hp => (nomatch hp)⟩ (fun j σ' Hx _ ⟨_, _, _, _, _, _, h, _⟩ => Evl.sq_of h) (fun j x σ' Hx hx pv => ?_) fun σ' Hx pv => ?_⟩
      · obtain ⟨fs, es, p8, p9, rfl, mx, hpx, h7x, fk, ek, pfe, fok⟩ := pv
        obtain ⟨y, hy, rfl⟩ := str_at hx
        obtain ⟨pr0, hpr0, e0⟩ := List.mem_map.mp (perm.mem_iff.mp (List.mem_of_getElem? hy))
        obtain ⟨yn, ws⟩ := pr0
        cases e0
        have hlk : (fl.map fun p => (p.1, p.2.map V.str)).lookup yn = some (ws.map V.str) := by
          refine lk_of_mem ?_ (List.mem_map.mpr ⟨_, hpr0, rfl⟩)
          rw [List.map_map]
          exact okf.2.1
        obtain ⟨ces, hces, cpr⟩ := id cho
        rw [hfa] at hces
        cases hces
        obtain ⟨ve, hve, t, rfl, ht⟩ := pair_lkV (F := fun x v => ∃ t, v = .ref t ∧ H t = some (.tup x)) cpr hlk
        have ht' : ∀ {Hz : Hp}, Mv S c H6 Hz → Hz t = some (.tup (ws.map V.str)) := fun mz => (mH6.trans mz).tup ht
        refine Evl.q_asg (v := .ref t) (ev_get (ev_get (Evl.ev_var rfl) Evl.ev_c (.inl (hx6 mx dvS hdv)) hvf) (Evl.ev_var rfl) (.inl (hx6 mx faS hfa)) hve) fun Hy ey => ?_
        have my := mx.tx ey
        obtain ⟨_, wl2, wl3, _, _⟩ := okf.2.2 _ hpr0
        have wl2 : 2 ≤ ws.length := wl2
        have wl3 : ws.length ≤ 3 := wl3
        refine ⟨_, rfl, _, rfl, _, rfl, .ref t, _, rfl, .inr ⟨_, Evl.st_of (ht' my), rfl⟩, S, c, _, rfl, my.z, by rw [List.length_map]; omega, by rw [List.length_map]; omega, fun Hz rz mz z0 z1 => ?_⟩
        have mz6 := my.trans mz
        obtain ⟨vz, hvz, haz⟩ := at_get z0 z1
        obtain ⟨sz, hsz, rfl⟩ := str_at hvz
        refine ⟨t, _, rz, _, rfl, rfl, Evl.st_of (ht' mz6), haz, _, rfl, _, rfl, a7, _, rfl, .inl ⟨es, Sum.inr yn, mz.fr a7 _ a7S.1 a7S.2 (ey _ _ h7x), rfl, ?_, rfl⟩, ?_⟩
        · have l1 := congrArg List.length ek
          rw [List.length_map, List.length_map, List.length_take] at l1
          have l2 := perm.length_eq
          rw [List.length_map] at l2
          have := okf.1
          exact Evl.sz_lt (by omega)
        · have nv : valV es (Sum.inr yn : Key) = none := vV_no (by rw [ek]; exact inr_not (not_take ysnd hy))
          refine ⟨fs ++ [(yn, .str sz)], es ++ [(Sum.inr yn, .str sz)], _, _, rfl, mz6.mut h7, by rw [upd_ne np7]; exact mz.fr p _ pS.1 pS.2 (ey _ _ hpx), by rw [upd_same, putK_new _ nv], by rw [List.map_append, fk, take_snoc hy]; rfl, by rw [List.map_append, ek, take_snoc hy, List.map_append]; rfl, ?_, fun e he => ?_⟩
          · rw [List.map_append, List.map_append]
            exact pair_snoc pfe ⟨sz, rfl, rfl⟩
          · rcases List.mem_append.mp he with he | he
            · exact fok e he
            · rw [List.mem_singleton.mp he]
              exact ⟨sz, ws, rfl, hpr0, List.mem_of_getElem? hsz⟩
      · obtain ⟨fs, es, p8, p9, rfl, mx, hpx, h7x, fk, ek, pfe, fok⟩ := pv
        rw [List.length_map, List.take_of_length_le (Nat.le_refl _)] at fk ek
        have okfs : okF2 fl fs := okF2_of okf.2.1 perm fk fok
        have lfs : fs.length ≤ 2 := by
          have h1 := congrArg List.length fk
          rw [List.length_map] at h1
          have h2 := perm.length_eq
          rw [List.length_map] at h2
          have := okf.1
          omega
        have fkk := fk
        clear fk fok m9 m8 e8 hpx h78 cho keysf
        -- lists
        intro a10 h10
        have m6x := m6.trans mx
        have mHx := mH.trans m6x
        have h10H' := m6x.back h10
        have a10S := mx.z.someS h10
        have hiax : Hx ia = some (.dK ies) := hx6 mx iaS hia
        have hdvx : Hx dv = some (.dK des) := hx6 mx dvS hdv
        have n10i : a10 ≠ ia := fun e => by rw [e, hiax] at h10; cases h10
        have n10d : a10 ≠ dv := fun e => by rw [e, hdvx] at h10; cases h10
        have ndi2 : dv ≠ ia := fun e => Pia.2 e.symm
        have lki : ies.length = ii.length := by rw [← pair_len ipr, pair_len pls]
        have hz10 : ∀ {o : HO} {b : Addr} {u : HO}, (upd Hx ia o) b = none → Hx b = none := fun {o b u} hb => by
          by_cases e : b = ia
          · rw [e, upd_same] at hb; cases hb
          · rw [upd_ne e] at hb; exact hb
        refine for_lock (J := fun od => Itk ia od ies) (xs := fun _ => none) (d := ia) (es := ies) (by rw [upd_ne n10i.symm]; exact hiax) (fun od R r => ⟨.ref dv, rfl, dv, .ref ia, rfl, .inl ⟨des, Sum.inr "inner", .inl (by rw [upd_ne ndi2, upd_ne n10d.symm]; exact hdvx), rfl, hvi.symm⟩, ia, od, rfl, .inl ⟨ies, upd_same, r⟩⟩) (fun od => walk_keys)
          (fun od j σ' Hy => ∃ (ls : List (Str × D)) (es10 : List (Key × V)) (ix10 : Addr → Nat) (u8 : Option V), σ' = [some (.ref S), some (.ref dv), some (.int 6), some (.ref q), some (.int i), some (.ref t5), some (.int nn), some (.ref a7), u8, p9, some (.ref a10), none, none] ∧ Mv S c (upd Hx ia (.frz od (.dK ies))) Hy ∧ Hy a10 = some (.dK es10) ∧
            es10.map (·.1) = (((upS ii).map (·.1)).take j).map Sum.inr ∧ Tr (fun S d v => RepT Hy (3 * m + 1) S d v) (fun b => Hx b = none) a10 ix10 (ls.map (·.2)) (es10.map (·.2)) ∧ Paired (fun (p : Str × D) (q : Str × Fl × List (Str × Fl)) => p.1 = q.1 ∧ gR m q.2.1 q.2.2 p.2) ls ((upS ii).take j))
          (fun od => ⟨[], [], fun _ => 0, _, rfl, ⟨mx.z.upd iaS, (mx.z.upd a10S).upd iaS, fun b o _ _ hb => ?_⟩, by rw [upd_ne n10i]; exact upd_same, rfl, ⟨rfl, fun i d x h => (nomatch h)⟩, .nil⟩) (fun od j σ' Hy _ ⟨_, _, _, _, _, mv, _⟩ => mv.fr ia _ iaS.1 iaS.2 upd_same) (fun od j x σ' H0 Hy hlt pv y => ?_) fun od σ' Hy pv => ?_
        · by_cases e : b = ia
          · rw [e] at hb ⊢; rw [upd_same] at hb ⊢; exact hb
          · rw [upd_ne e] at hb ⊢
            have : b ≠ a10 := fun z => by rw [z, h10] at hb; cases hb
            rw [upd_ne this]; exact hb
        · obtain ⟨ls, es10, ix10, u8, rfl, mv, h10y, ek10, tr10, pg⟩ := pv
          obtain ⟨rfl, kk, vj, hkv, rfl⟩ := y
          obtain ⟨⟨nm, dj⟩, hdj, hk, hrepj⟩ := pair_back ipr hkv
          have hk : kk = Sum.inr nm := hk
          subst hk
          obtain ⟨⟨nm', fj⟩, hij, e2, hl0⟩ := pair_at pls hdj
          have e2 : nm = nm' := e2
          subst e2
          have m1 : 1 ≤ m := by
            cases m with
            | zero => rw [hm0 (by decide)] at hij; cases hij
            | succ m => omega
          have hupj : (upS ii)[j]? = some (nm, fj, []) := by unfold upS; rw [List.getElem?_map, hij]; rfl
          have hupk : ((upS ii).map (·.1))[j]? = some nm := by rw [List.getElem?_map, hupj]; rfl
          have upnd : ((upS ii).map (·.1)).Nodup := by
            have : (upS ii).map (·.1) = ii.map (·.1) := by unfold upS; rw [List.map_map]; rfl
            rw [this]; exact ind
          have hvj : valV ies (Sum.inr nm : Key) = some vj := by
            refine valV_at ?_ hkv
            have : ies.map (·.1) = (ii.map (·.1)).map Sum.inr := by
              have h1 : ies.map (·.1) = (de.map (·.1)).map Sum.inr := by
                refine List.ext_getElem? fun t => ?_
                rw [List.getElem?_map, List.getElem?_map, List.getElem?_map]
                cases ht : ies[t]? with
                | none =>
                  have : de[t]? = none := List.getElem?_eq_none_iff.mpr (by rw [pair_len ipr]; exact List.getElem?_eq_none_iff.mp ht)
                  rw [this]; rfl
                | some e =>
                  obtain ⟨p, hp, h1, _⟩ := pair_back ipr ht
                  rw [hp]; exact congrArg some h1
              have h2 : de.map (·.1) = ii.map (·.1) := by
                refine List.ext_getElem? fun t => ?_
                rw [List.getElem?_map, List.getElem?_map]
                cases ht : ii[t]? with
                | none =>
                  have : de[t]? = none := List.getElem?_eq_none_iff.mpr (by rw [pair_len pls]; exact List.getElem?_eq_none_iff.mp ht)
                  rw [this]; rfl
                | some e =>
                  obtain ⟨p, hp, h1, _⟩ := pair_back pls ht
                  rw [hp]; exact congrArg some h1
              rw [h1, h2]
            rw [this]
            exact List.Pairwise.map _ (fun a b h z => h (Sum.inr.inj z)) ind
          have hrepy : Rep Hy n (fun b => (PP b ∧ b ≠ dv) ∧ b ≠ ia) dj vj := rep_mv mv (fun z => nS z.1.1) (fun z => nc z.1.1) (rep_lock hiax (fun b z => z.2) (rep_mv mHx (fun z => nS z.1.1) (fun z => nc z.1.1) hrepj))
          have hdvy : Hy dv = some (.dK des) := mv.fr dv _ dvS.1 dvS.2 (by rw [upd_ne ndi2]; exact hdvx)
          have hiay : Hy ia = some (.frz od (.dK ies)) := mv.fr ia _ iaS.1 iaS.2 upd_same
          obtain ⟨l0, rfl, l02, l0f, l0i⟩ := hl0
          refine ⟨_, rfl, _, rfl, dv, .ref ia, rfl, .inl ⟨des, Sum.inr "inner", .inl hdvy, rfl, hvi.symm⟩, _, rfl, ia, vj, rfl, .inl ⟨ies, Sum.inr nm, .inr ⟨od, hiay⟩, rfl, hvj.symm⟩, _, rfl, S, c, vj, n, _, .dic l0, fj, [], rfl, mv.z, hrepy, fun z => nS z.1.1, fun z => nc z.1.1, ⟨l0, [], rfl, l02, l0f, l0i, .nil⟩, iok _ (List.mem_of_getElem? hij), List.nodup_nil, Nat.zero_le _, fun q hq => (nomatch hq), fun _ => rfl, m1, fun H3 q3 rd m3 hrd hg => ?_⟩
          have h103 : H3 a10 = some (.dK es10) := m3.fr a10 _ a10S.1 a10S.2 h10y
          have nv : valV es10 (Sum.inr nm : Key) = none := vV_no (by rw [ek10]; exact inr_not (not_take upnd hupk))
          refine ⟨_, rfl, _, rfl, a10, _, rfl, .inl ⟨es10, Sum.inr nm, h103, rfl, ?_, rfl⟩, ?_⟩
          · have l1 := congrArg List.length ek10
            rw [List.length_map, List.length_map, List.length_take] at l1
            exact Evl.sz_lt (by omega)
          · have back : ∀ b, Hy b = none → Hx b = none := fun b hb => hz10 (u := .dK []) (mv.back hb)
            have xS : ¬ Hx S = none := fun z => (mx.z.someS z).1 rfl
            have xc : ¬ Hx c = none := fun z => (mx.z.someS z).2 rfl
            obtain ⟨ix', tr'⟩ := tr_snoc (R := fun S d v => RepT (upd H3 a10 (.dK (es10 ++ [(Sum.inr nm, .ref q3)]))) (3 * m + 1) S d v) (S := fun b => Hx b = none) (a := a10) (ix := ix10) (l := ls.map (·.2)) (xs := es10.map (·.2)) (Hk := Hy) (d := rd) (x := .ref q3) (fun _ _ _ _ h r => rt_S h r)
              (tr_imp (fun i d x r => rt_upd (fun b hb => hb.1.2) (rt_mv m3 (fun z => xS z.1.1.1) (fun z => xc z.1.1.1) (rt_Sd (fun b hb hb2 => ⟨⟨⟨hb.1.1, hb2⟩, hb.1.2⟩, hb.2⟩) r))) tr10)
              (rt_upd (fun b hb => hb.1.2) (rt_S (fun b hb => ⟨⟨back b hb, fun z => by rw [z, h10y] at hb; cases hb⟩, hb⟩) hrd))
            refine ⟨ls ++ [(nm, rd)], es10 ++ [(Sum.inr nm, .ref q3)], ix', _, rfl, (mv.trans m3).mut (by rw [upd_ne n10i]; exact h10), by rw [upd_same, putK_new _ nv], by rw [List.map_append, ek10, take_snoc hupk, List.map_append]; rfl, ?_, ?_⟩
            · rw [putK_new _ nv, List.map_append, List.map_append]; exact tr'
            · rw [take_snoc hupj]; exact pair_snoc pg ⟨rfl, hg⟩
        · obtain ⟨ls, es10, ix10, u8, rfl, mv, h10y, ek10, tr10, pg⟩ := pv
          have hle : (upS ii).length ≤ ies.length := by unfold upS; rw [List.length_map]; omega
          rw [List.take_of_length_le (by rw [List.length_map]; exact hle)] at ek10
          rw [List.take_of_length_le hle] at pg
          have mu : Mv S c Hx (upd Hy ia (.dK ies)) := by
            refine ⟨mx.z, mv.z.upd iaS, fun b o b1 b2 hb => ?_⟩
            by_cases e : b = ia
            · rw [e] at hb ⊢; rw [upd_same, ← hiax]; exact hb
            · rw [upd_ne e]
              exact mv.fr b o b1 b2 (by rw [upd_ne e]; exact hb)
          have h10u : (upd Hy ia (.dK ies)) a10 = some (.dK es10) := by rw [upd_ne n10i]; exact h10y
          have tru : Tr (fun S d v => RepT (upd Hy ia (.dK ies)) (3 * m + 1) S d v) (fun b => Hx b = none) a10 ix10 (ls.map (·.2)) (es10.map (·.2)) := tr_imp (fun i d x r => rt_upd (fun b hb e => by rw [e] at hb; rw [hiax] at hb; exact (nomatch hb.1.1)) r) tr10
          generalize (upd Hy ia (.dK ies)) = Hu at mu h10u tru ⊢
          have h7u := mu.fr a7 _ a7S.1 a7S.2 h7x
          have hqu : Hu q = some (.lst xs) := mu.fr q _ qS.1 qS.2 (m6x.fr q _ qS.1 qS.2 hqH)
          refine ⟨_, rfl, Or.inl ⟨rfl, xs, Evl.sq_of hqu⟩, fun p9' hp9 => ⟨_, rfl, _, rfl, _, rfl, upd_same, [(Sum.inr "id", .int nn), (Sum.inr "fields", .ref a7), (Sum.inr "lists", .ref a10)], rfl, (by show 3 ≤ 15; decide), ?_⟩⟩
          rw [merge3 nIF nIL nFL]
          have mE : Mv S c Hu (upd (upd Hu p9' (.dK [])) p9' (.dK [(Sum.inr "id", .int nn), (Sum.inr "fields", .ref a7), (Sum.inr "lists", .ref a10)])) := (Mv.new mu.z hp9).mut hp9
          have hp9E : (upd (upd Hu p9' (.dK [])) p9' (.dK [(Sum.inr "id", .int nn), (Sum.inr "fields", .ref a7), (Sum.inr "lists", .ref a10)])) p9' = some (.dK [(Sum.inr "id", .int nn), (Sum.inr "fields", .ref a7), (Sum.inr "lists", .ref a10)]) := upd_same
          have n97 : p9' ≠ a7 := fun e => by rw [e, h7u] at hp9; cases hp9
          have n90 : p9' ≠ a10 := fun e => by rw [e, h10u] at hp9; cases hp9
          have n9q : p9' ≠ q := fun e => by rw [e, hqu] at hp9; cases hp9
          have hEn : ∀ b, b ≠ p9' → (upd (upd Hu p9' (.dK [])) p9' (.dK [(Sum.inr "id", .int nn), (Sum.inr "fields", .ref a7), (Sum.inr "lists", .ref a10)])) b = Hu b := fun b nb => by rw [upd_ne nb, upd_ne nb]
          generalize (upd (upd Hu p9' (.dK [])) p9' (.dK [(Sum.inr "id", .int nn), (Sum.inr "fields", .ref a7), (Sum.inr "lists", .ref a10)])) = HE at mE hp9E hEn ⊢
          have hqE : HE q = some (.lst xs) := by rw [hEn q n9q.symm]; exact hqu
          have h7E : HE a7 = some (.dK es) := by rw [hEn a7 n97.symm]; exact h7u
          have h10E : HE a10 = some (.dK es10) := by rw [hEn a10 n90.symm]; exact h10u
          refine ⟨q, xs, .ref p9', rfl, rfl, hqE, Evl.sz_lt (by omega), ?_⟩
          have m'E : Mv S c H' HE := m6x.trans (mu.trans mE)
          have hp9H' : H' p9' = none := (m6x.trans mu).back hp9
          have a7x : (if (Hx a7).isNone = true then 2 else 1) = 1 := by rw [h7x]; rfl
          have lkls : ls.map (·.1) = (upS ii).map (·.1) := by
            refine List.ext_getElem? fun t => ?_
            rw [List.getElem?_map, List.getElem?_map]
            cases ht : (upS ii)[t]? with
            | none =>
              have : ls[t]? = none := List.getElem?_eq_none_iff.mpr (by rw [pair_len pg]; exact List.getElem?_eq_none_iff.mp ht)
              rw [this]; rfl
            | some e =>
              obtain ⟨p, hp, h1, _⟩ := pair_back pg ht
              rw [hp]; exact congrArg some h1
          have rowE : RepT HE (3 * m + 3) (fun b => H' b = none) (rowD nn fs ls) (.ref p9') := by
            refine ⟨p9', _, fun b => if (Hx b).isNone = true then 2 else 1, rfl, hp9H', hp9E, (by show 3 ≤ 100000; decide), rfl, rfl, fun t d x h1 h2 => ?_⟩
            match t, h1, h2 with
            | 0, h1, h2 => cases h1; cases h2; rfl
            | 1, h1, h2 =>
              cases h1; cases h2
              refine ⟨a7, es, fun _ => 0, rfl, ⟨⟨h7n, n97.symm⟩, a7x⟩, h7E, by omega, ?_, ?_, fun t d x h1 h2 => ?_⟩
              · rw [ek]
                have : fs.map (fun q => (Sum.inr q.1 : Key)) = (fs.map (·.1)).map Sum.inr := by rw [List.map_map]; rfl
                rw [this]; congr 1
                have h1 := fkk
                exact h1.symm
              · exact pair_len pfe
              · obtain ⟨b, hb, s, rfl, rfl⟩ := pair_at pfe h1
                rw [hb] at h2; cases h2; rfl
            | 2, h1, h2 =>
              cases h1; cases h2
              refine ⟨a10, es10, ix10, rfl, ⟨⟨h10H', n90.symm⟩, by show (if (Hx a10).isNone = true then 2 else 1) = 2; rw [h10]; rfl⟩, h10E, ?_, ?_, tr_imp (fun i d x r => rt_mv mE (fun z => (mH.z.someS z.1.1.1.1).1 rfl) (fun z => (mH.z.someS z.1.1.1.1).2 rfl) (rt_Sd (fun b hb hb2 => ?_) r)) tru⟩
              · rw [pair_len pg]; unfold upS; rw [List.length_map]; omega
              · rw [ek10, ← lkls, List.map_map]; rfl
              · refine ⟨⟨⟨⟨m6x.back hb.1.1, fun z => ?_⟩, ?_⟩, hb.1.2⟩, hb.2⟩
                · exact hb2 (by rw [z]; exact hp9)
                · show (if (Hx b).isNone = true then 2 else 1) = 2
                  rw [hb.1.1]; rfl
            | t + 3, h1, h2 => cases h1
          have mHE := mH.trans m'E
          obtain ⟨ix', tr'⟩ := tr_snoc (R := fun S d v => RepT (upd HE q (.lst (xs ++ [.ref p9']))) (3 * m + 3) S d v) (S := fun b => H b = none) (a := q) (ix := ix) (l := rs) (xs := xs) (Hk := H') (d := rowD nn fs ls) (x := .ref p9') (fun _ _ _ _ h r => rt_S h r)
            (tr_imp (fun i d x r => rt_upd (fun b hb => hb.1.2) (rt_mv m'E (fun z => (st.someS z.1.1.1).1 rfl) (fun z => (st.someS z.1.1.1).2 rfl) (rt_Sd (fun b hb hb2 => ⟨⟨⟨hb.1.1, hb2⟩, hb.1.2⟩, hb.2⟩) r))) tr)
            (rt_upd (fun b hb => hb.1.2) (rt_S (fun b hb => ⟨⟨mH.back hb, fun z => by rw [z, hqH] at hb; cases hb⟩, hb⟩) rowE))
          refine ⟨xs ++ [.ref p9'], rs ++ [rowD nn fs ls], ids ++ [nn], ix', _, _, _, _, _, _, _, rfl, mHE.mut hq, upd_same, tr', ?_, by rw [List.length_append, lrs]; rfl, pair_snoc prs ⟨fs, ls, rfl, nn0, nn1, okfs, pg⟩⟩
          refine List.nodup_append.mpr ⟨ndi, by simp, fun a ha b hb => ?_⟩
          rw [List.mem_singleton.mp hb]
          intro e
          exact nnid (by rw [← e]; exact ha)
    · obtain ⟨xs, rs, ids, ix, o4, o5, o6, o7, o8, o9, o10, rfl, mH, hqH, tr, ndi, lrs, prs⟩ := pv
      exact Evl.s_ret (Evl.ev_var rfl) fun H7 e7 => k H7 q (.lst rs) (mH.tx e7) (rt_ex e7 ⟨q, xs, ix, rfl, hq, hqH, by omega, tr⟩) ⟨rs, ids, rfl, ndi, by omega, prs⟩
end
end Pk

namespace Pk
open PySem PySem.Spec PyProof.Rows L2 Ssb
open Evl (Ex Ev EvT EvL EvA EvU)
theorem pair_names {α β : Type} {F : Str × α → Str × β → Prop} {l : List (Str × α)} {s : List (Str × β)} (h : Paired (fun p q => p.1 = q.1 ∧ F p q) l s) : l.map (·.1) = s.map (·.1) := by
  induction h with
  | nil => rfl
  | cons h t ih => rw [List.map_cons, List.map_cons, ih, h.1]
theorem pair_keys {α : Type} {F : Str × α → Key × V → Prop} {l : List (Str × α)} {es : List (Key × V)} (h : Paired (fun p e => e.1 = Sum.inr p.1 ∧ F p e) l es) : es.map (·.1) = (l.map (·.1)).map Sum.inr := by
  induction h with
  | nil => rfl
  | cons h t ih => rw [List.map_cons, List.map_cons, List.map_cons, ih, h.1]
theorem inr_nd {ks : List Str} (h : ks.Nodup) : (ks.map (Sum.inr : Str → Key)).Nodup := List.Pairwise.map _ (fun a b h z => h (Sum.inr.inj z)) h
theorem sh_nd : ∀ {s : Sh}, ((rowsS s).map (·.1)).Nodup → (s.map (·.1)).Nodup := fun {s} h => by
  refine List.Sublist.nodup ?_ h
  clear h
  induction s with
  | nil => exact List.Sublist.slnil
  | cons p s ih =>
    have : (rowsS (p :: s)).map (·.1) = p.1 :: ((p.2.2.map fun q => ((q.1, some p.1, q.2) : Ro)).map (·.1) ++ (rowsS s).map (·.1)) := by
      show ((rowsOf p ++ rowsS s).map (·.1)) = _
      rw [List.map_append]; rfl
    rw [this, List.map_cons]
    exact (ih.trans (List.sublist_append_right _ _)).cons_cons _
theorem Mv.strs {S c a : Addr} {H : Hp} {fl : List Str} (st : StAt H S c) (h : H a = some (.lst (fl.map V.str))) : a ≠ S ∧ a ≠ c := by
  obtain ⟨_, k, cs, h1, h2, h3, _⟩ := st
  refine ⟨fun e => ?_, fun e => ?_⟩
  · rw [e, h1] at h
    have h := Option.some.inj h
    cases fl with
    | nil => cases h
    | cons x xs =>
      rw [List.map_cons] at h
      cases h
  · rw [e, h2] at h
    have h := HO.lst.inj (Option.some.inj h)
    cases cs with
    | nil => exact absurd h3 (by decide)
    | cons y ys =>
      cases fl with
      | nil => cases h
      | cons x xs =>
        rw [List.map_cons, List.map_cons] at h
        cases h
theorem nGL : ¬ (("flags" : Str) = "lists") := by decide +kernel
section
variable {P : Program} {w : World} {K : PySem.W.Frag} {mg : Str → Option Value} {base : Heap} {C_Shape : Addr}
def gLs (m : Nat) (ls : List (Str × D)) (s : Sh) : Prop := Paired (fun (p : Str × D) (q : Str × Fl × List (Str × Fl)) => p.1 = q.1 ∧ gR m q.2.1 q.2.2 p.2) ls s
def gD (fl : List Str) (s : Sh) (dd : D) : Prop := ∃ fgs ls, dd = .dic [("flags", .dic fgs), ("lists", .dic ls)] ∧ fgs.map (·.1) = fl ∧ (∀ p ∈ fgs, ∃ b, p.2 = .bl b) ∧ gLs 2 ls s
def spLd : Sp := fun vs H Q _ => ∃ (S c a : Addr) (v : V) (n : Nat) (P : Addr → Prop) (d : D) (fl : List Str) (s : Sh), vs = [.ref S, .ref a, v, .int 6] ∧ StAt H S c ∧ H a = some (.lst (fl.map V.str)) ∧ fl.Nodup ∧ fl.length ≤ 2 ∧ Rep H n P d v ∧ ¬ P S ∧ ¬ P c ∧ shD d s ∧ okSh s ∧
  ∀ H' q dd, Mv S c H H' → RepT H' 9 (fun b => H b = none) dd (.ref q) → gD fl s dd → Q (.ref q) H'
theorem ok__law_rows2 (T : Txt K mg C_Shape) (R : Prg K mg C_Shape) : ∃ f fd, Fn P w K mg base "_law_rows" 3 ["_law_stream_here", "_law_described", "_law_most"] (spLr 2) f fd := ok__law_rows T R (by decide) (ok__law_rows T R (by decide) (ok__law_rows0 T R))
theorem ok__law_data (T : Txt K mg C_Shape) (R : Prg K mg C_Shape) : ∃ f fd, Fn P w K mg base "_law_data" 4 ["_law_stream_here", "_law_flags", "_law_lists_here", "_law_most"] spLd f fd := by
  obtain ⟨_, _, G__law_rows⟩ := ok__law_rows2 (P := P) (w := w) (base := base) T R
  obtain ⟨_, _, G__law_draw⟩ := ok__law_draw (P := P) (w := w) (base := base) T R
  obtain ⟨f, fd, at_, F, kp⟩ := R._law_data
  refine ⟨f, fd, F.ok sc__law_data (fun vs H Q E h => ?_) (fun cdv A outer s H vs Q E hr h => ?_), at_, kp, F.binds (fun _ _ _ _ _ _ us hl => match us, hl with | [_, _, _, _], _ => rfl)⟩
  · obtain ⟨S, c, a, v, n, P, d, fl, s, rfl, _⟩ := h; rfl
  · obtain ⟨S, c, a, v, n, PP, dd, fl, sh, rfl, st, ha, fnd, fl2, hv, nS, nc, ⟨dl, rfl, pls⟩, okS, k⟩ := h
    cases n with
    | zero => exact hv.elim
    | succ n =>
    obtain ⟨ia, ies, rfl, Pia, hia, _, ipr⟩ := id hv
    have iaS : ia ≠ S ∧ ia ≠ c := ⟨fun e => nS (e ▸ Pia), fun e => nc (e ▸ Pia)⟩
    have aS := Mv.strs st ha
    have lki : ies.length = sh.length := by rw [← pair_len ipr, pair_len pls]
    have shn : (sh.map (·.1)).Nodup := sh_nd okS.2.1
    have ikeys : ies.map (·.1) = (sh.map (·.1)).map Sum.inr := by rw [pair_keys ipr, pair_names pls]
    refine ⟨_, (pss_cons (ps_set (i := 4) sc__law_data.nd rfl (Or.inl rfl) pe_dnewK)
  (pss_cons (ps_for PassesOwn.never rfl (show PI _ _ _ (iList K _) from pi_list (pv 1)) (pg_name (i := 5) sc__law_data.nd rfl (Or.inl rfl))
    (pss_one (ps_dput (hu_of hr) (pv 4) (pv 5) (pe_cmpR op_eq (pcl G__law_draw hr (pa_cons (pv 0) (pa_cons pe_int pa_nil))) pe_int (nomark _)) rfl)))
  (pss_cons (ps_set (i := 6) sc__law_data.nd rfl (Or.inl rfl) pe_dnewK)
  (pss_cons (ps_lock (ps_for PassesOwn.never rfl (pi_keys (pv 2)) (pg_name (i := 7) sc__law_data.nd rfl (Or.inl rfl))
    (pss_one (ps_dput (hu_of hr) (pv 6) (pv 7) (pcl G__law_rows hr (pa_cons (pv 0) (pa_cons (pe_dget (hu_of hr) (pv 2) (pv 7) (fun _ _ => rfl)) (pa_cons (pv 3) pa_nil)))) rfl))))
  (pss_one (ps_ret (pe_disp (pps_cons pe_str (pv 4) (pps_cons pe_str (pv 6) pps_nil)) (by rfl) (by rfl) (fun z => by cases z) (by decide)))))))), ?_⟩
    intro a7 h7
    have a7S := st.someS h7
    have m7 := Mv.new (o := .dK []) st h7
    have na7 : a ≠ a7 := fun e => by rw [e, h7] at ha; cases ha
    refine ⟨_, rfl, a, rfl, ⟨_, Evl.sq_of (m7.fr a _ aS.1 aS.2 ha)⟩, for_list (K := K) (a := a) (xs := fl.map V.str) (fun j σ' Hx => ∃ (fs : List (Str × D)) (es : List (Key × V)) (o5 : Option V), σ' = [some (.ref S), some (.ref a), some (.ref ia), some (.int 6), some (.ref a7), o5, none, none] ∧ Mv S c H Hx ∧ Hx a7 = some (.dK es) ∧
        fs.map (·.1) = fl.take j ∧ es.map (·.1) = (fl.take j).map Sum.inr ∧ Paired (fun (x : D) (v : V) => ∃ b, x = .bl b ∧ v = .bl b) (fs.map (·.2)) (es.map (·.2)) ∧ ∀ p ∈ fs, ∃ b, p.2 = .bl b) ⟨[], [], _, rfl, m7, upd_same, rfl, rfl, .nil, fun p hp => (nomatch hp)⟩ (fun j σ' Hx _ ⟨_, _, _, _, m, _⟩ => Evl.sq_of (m.fr a _ aS.1 aS.2 ha)) (fun j x σ' Hx hx pv => ?_) fun σ' Hx pv => ?_⟩
    · obtain ⟨fs, es, o5, rfl, mx, h7x, fk, ek, pfe, fok⟩ := pv
      obtain ⟨y, hy, rfl⟩ := str_at hx
      refine ⟨_, rfl, S, c, 2, rfl, mx.z, by decide, by decide, fun Hz rz mz z0 z1 => ⟨rfl, ?_⟩⟩
      refine ⟨_, rfl, _, rfl, a7, _, rfl, .inl ⟨es, Sum.inr y, mz.fr a7 _ a7S.1 a7S.2 h7x, rfl, ?_, rfl⟩, ?_⟩
      · have l1 := congrArg List.length ek
        rw [List.length_map, List.length_map, List.length_take] at l1
        exact Evl.sz_lt (by omega)
      · have nv : valV es (Sum.inr y : Key) = none := vV_no (by rw [ek]; exact inr_not (not_take fnd hy))
        generalize decide (V.int rz = V.int 1) = bb
        refine ⟨fs ++ [(y, .bl bb)], es ++ [(Sum.inr y, .bl bb)], _, rfl, (mx.trans mz).mut h7, by rw [upd_same, putK_new _ nv], by rw [List.map_append, fk, take_snoc hy]; rfl, by rw [List.map_append, ek, take_snoc hy, List.map_append]; rfl, ?_, fun e he => ?_⟩
        · rw [List.map_append, List.map_append]
          exact pair_snoc pfe ⟨bb, rfl, rfl⟩
        · rcases List.mem_append.mp he with he | he
          · exact fok e he
          · rw [List.mem_singleton.mp he]
            exact ⟨bb, rfl⟩
    · obtain ⟨fs, es, o5, rfl, mx, h7x, fk, ek, pfe, fok⟩ := pv
      rw [List.length_map, List.take_of_length_le (Nat.le_refl _)] at fk ek
      intro a10 h10
      have h10H := mx.back h10
      have a10S := mx.z.someS h10
      have hiax : Hx ia = some (.dK ies) := mx.fr ia _ iaS.1 iaS.2 hia
      have n10i : a10 ≠ ia := fun e => by rw [e, hiax] at h10; cases h10
      have hz10 : ∀ {o : HO} {b : Addr} {u : HO}, (upd Hx ia o) b = none → Hx b = none := fun {o b u} hb => by
        by_cases e : b = ia
        · rw [e, upd_same] at hb; cases hb
        · rw [upd_ne e] at hb; exact hb
      refine for_lock (J := fun od => Itk ia od ies) (xs := fun _ => none) (d := ia) (es := ies) (by rw [upd_ne n10i.symm]; exact hiax) (fun od R r => ⟨_, rfl, ia, od, rfl, .inl ⟨ies, upd_same, r⟩⟩) (fun od => walk_keys)
        (fun od j σ' Hy => ∃ (ls : List (Str × D)) (es10 : List (Key × V)) (ix10 : Addr → Nat) (u8 : Option V), σ' = [some (.ref S), some (.ref a), some (.ref ia), some (.int 6), some (.ref a7), o5, some (.ref a10), u8] ∧ Mv S c (upd Hx ia (.frz od (.dK ies))) Hy ∧ Hy a10 = some (.dK es10) ∧
          es10.map (·.1) = ((sh.map (·.1)).take j).map Sum.inr ∧ Tr (fun S d v => RepT Hy 7 S d v) (fun b => Hx b = none) a10 ix10 (ls.map (·.2)) (es10.map (·.2)) ∧ gLs 2 ls (sh.take j))
        (fun od => ⟨[], [], fun _ => 0, _, rfl, ⟨mx.z.upd iaS, (mx.z.upd a10S).upd iaS, fun b o _ _ hb => ?_⟩, by rw [upd_ne n10i]; exact upd_same, rfl, ⟨rfl, fun i d x h => (nomatch h)⟩, .nil⟩) (fun od j σ' Hy _ ⟨_, _, _, _, _, mv, _⟩ => mv.fr ia _ iaS.1 iaS.2 upd_same) (fun od j x σ' H0 Hy hlt pv y => ?_) fun od σ' Hy pv => ?_
      · by_cases e : b = ia
        · rw [e] at hb ⊢; rw [upd_same] at hb ⊢; exact hb
        · rw [upd_ne e] at hb ⊢
          have : b ≠ a10 := fun z => by rw [z, h10] at hb; cases hb
          rw [upd_ne this]; exact hb
      · obtain ⟨ls, es10, ix10, u8, rfl, mv, h10y, ek10, tr10, pg⟩ := pv
        obtain ⟨rfl, kk, vj, hkv, rfl⟩ := y
        obtain ⟨⟨nm, dj⟩, hdj, hk, hrepj⟩ := pair_back ipr hkv
        have hk : kk = Sum.inr nm := hk
        subst hk
        obtain ⟨⟨nm', fj, ij⟩, hij, e2, hl1⟩ := pair_at pls hdj
        have e2 : nm = nm' := e2
        subst e2
        have hupk : (sh.map (·.1))[j]? = some nm := by rw [List.getElem?_map, hij]; rfl
        have hvj : valV ies (Sum.inr nm : Key) = some vj := valV_at (by rw [ikeys]; exact inr_nd shn) hkv
        have hrepy : Rep Hy n (fun b => PP b ∧ b ≠ ia) dj vj := rep_mv mv (fun z => nS z.1) (fun z => nc z.1) (rep_lock hiax (fun b z => z.2) (rep_mv mx (fun z => nS z.1) (fun z => nc z.1) hrepj))
        have hiay : Hy ia = some (.frz od (.dK ies)) := mv.fr ia _ iaS.1 iaS.2 upd_same
        obtain ⟨okw, okf, il, iok⟩ := okS.2.2 _ (List.mem_of_getElem? hij)
        have okf : okFl fj := okf
        have il : ij.length ≤ 1 := il
        have ind : (ij.map (·.1)).Nodup := by
          match ij, il with
          | [], _ => exact List.nodup_nil
          | [x], _ => simp
        refine ⟨_, rfl, _, rfl, _, rfl, ia, vj, rfl, .inl ⟨ies, Sum.inr nm, .inr ⟨od, hiay⟩, rfl, hvj.symm⟩, _, rfl, S, c, vj, n, _, dj, fj, ij, rfl, mv.z, hrepy, fun z => nS z.1, fun z => nc z.1, hl1, okf, ind, by omega, fun q hq => (iok q hq).2, fun h => absurd h (by decide), by decide, fun H3 q3 rd m3 hrd hg => ?_⟩
        have h103 : H3 a10 = some (.dK es10) := m3.fr a10 _ a10S.1 a10S.2 h10y
        have nv : valV es10 (Sum.inr nm : Key) = none := vV_no (by rw [ek10]; exact inr_not (not_take shn hupk))
        refine ⟨_, rfl, _, rfl, a10, _, rfl, .inl ⟨es10, Sum.inr nm, h103, rfl, ?_, rfl⟩, ?_⟩
        · have l1 := congrArg List.length ek10
          rw [List.length_map, List.length_map, List.length_take, List.length_map] at l1
          have := okS.1
          exact Evl.sz_lt (by omega)
        · have back : ∀ b, Hy b = none → Hx b = none := fun b hb => hz10 (u := .dK []) (mv.back hb)
          have xS : ¬ Hx S = none := fun z => (mx.z.someS z).1 rfl
          have xc : ¬ Hx c = none := fun z => (mx.z.someS z).2 rfl
          obtain ⟨ix', tr'⟩ := tr_snoc (R := fun S d v => RepT (upd H3 a10 (.dK (es10 ++ [(Sum.inr nm, .ref q3)]))) 7 S d v) (S := fun b => Hx b = none) (a := a10) (ix := ix10) (l := ls.map (·.2)) (xs := es10.map (·.2)) (Hk := Hy) (d := rd) (x := .ref q3) (fun _ _ _ _ h r => rt_S h r)
            (tr_imp (fun i d x r => rt_upd (fun b hb => hb.1.2) (rt_mv m3 (fun z => xS z.1.1.1) (fun z => xc z.1.1.1) (rt_Sd (fun b hb hb2 => ⟨⟨⟨hb.1.1, hb2⟩, hb.1.2⟩, hb.2⟩) r))) tr10)
            (rt_upd (fun b hb => hb.1.2) (rt_S (fun b hb => ⟨⟨back b hb, fun z => by rw [z, h10y] at hb; cases hb⟩, hb⟩) hrd))
          refine ⟨ls ++ [(nm, rd)], es10 ++ [(Sum.inr nm, .ref q3)], ix', _, rfl, (mv.trans m3).mut (by rw [upd_ne n10i]; exact h10), by rw [upd_same, putK_new _ nv], by rw [List.map_append, ek10, take_snoc hupk, List.map_append]; rfl, ?_, ?_⟩
          · rw [putK_new _ nv, List.map_append, List.map_append]; exact tr'
          · rw [take_snoc hij]; exact pair_snoc pg ⟨rfl, hg⟩
      · obtain ⟨ls, es10, ix10, u8, rfl, mv, h10y, ek10, tr10, pg⟩ := pv
        have hle : sh.length ≤ ies.length := by omega
        rw [List.take_of_length_le (by rw [List.length_map]; exact hle)] at ek10
        rw [List.take_of_length_le hle] at pg
        have mu : Mv S c Hx (upd Hy ia (.dK ies)) := by
          refine ⟨mx.z, mv.z.upd iaS, fun b o b1 b2 hb => ?_⟩
          by_cases e : b = ia
          · rw [e] at hb ⊢; rw [upd_same, ← hiax]; exact hb
          · rw [upd_ne e]
            exact mv.fr b o b1 b2 (by rw [upd_ne e]; exact hb)
        have h10u : (upd Hy ia (.dK ies)) a10 = some (.dK es10) := by rw [upd_ne n10i]; exact h10y
        have tru : Tr (fun S d v => RepT (upd Hy ia (.dK ies)) 7 S d v) (fun b => Hx b = none) a10 ix10 (ls.map (·.2)) (es10.map (·.2)) := tr_imp (fun i d x r => rt_upd (fun b hb e => by rw [e] at hb; rw [hiax] at hb; exact (nomatch hb.1.1)) r) tr10
        generalize (upd Hy ia (.dK ies)) = Hu at mu h10u tru ⊢
        have h7u := mu.fr a7 _ a7S.1 a7S.2 h7x
        intro p9' hp9
        refine ⟨_, rfl, _, rfl, upd_same, [(Sum.inr "flags", .ref a7), (Sum.inr "lists", .ref a10)], rfl, (by show 2 ≤ 15; decide), ?_⟩
        rw [merge2 nGL]
        have mE : Mv S c Hu (upd (upd Hu p9' (.dK [])) p9' (.dK [(Sum.inr "flags", .ref a7), (Sum.inr "lists", .ref a10)])) := (Mv.new mu.z hp9).mut hp9
        have hp9E : (upd (upd Hu p9' (.dK [])) p9' (.dK [(Sum.inr "flags", .ref a7), (Sum.inr "lists", .ref a10)])) p9' = some (.dK [(Sum.inr "flags", .ref a7), (Sum.inr "lists", .ref a10)]) := upd_same
        have n97 : p9' ≠ a7 := fun e => by rw [e, h7u] at hp9; cases hp9
        have n90 : p9' ≠ a10 := fun e => by rw [e, h10u] at hp9; cases hp9
        have hEn : ∀ b, b ≠ p9' → (upd (upd Hu p9' (.dK [])) p9' (.dK [(Sum.inr "flags", .ref a7), (Sum.inr "lists", .ref a10)])) b = Hu b := fun b nb => by rw [upd_ne nb, upd_ne nb]
        generalize (upd (upd Hu p9' (.dK [])) p9' (.dK [(Sum.inr "flags", .ref a7), (Sum.inr "lists", .ref a10)])) = HE at mE hp9E hEn ⊢
        have h7E : HE a7 = some (.dK es) := by rw [hEn a7 n97.symm]; exact h7u
        have h10E : HE a10 = some (.dK es10) := by rw [hEn a10 n90.symm]; exact h10u
        have hp9H : H p9' = none := (mx.trans mu).back hp9
        have lkls : ls.map (·.1) = sh.map (·.1) := pair_names pg
        refine k HE p9' (.dic [("flags", .dic fs), ("lists", .dic ls)]) ((mx.trans mu).trans mE) ⟨p9', _, fun b => if (Hx b).isNone = true then 1 else 0, rfl, hp9H, hp9E, (by show 2 ≤ 100000; decide), rfl, rfl, fun t d x h1 h2 => ?_⟩ ⟨fs, ls, rfl, fk, fok, pg⟩
        match t, h1, h2 with
        | 0, h1, h2 =>
          cases h1; cases h2
          refine ⟨a7, es, fun _ => 0, rfl, ⟨⟨h7, n97.symm⟩, by show (if (Hx a7).isNone = true then 1 else 0) = 0; rw [h7x]; rfl⟩, h7E, ?_, ?_, ?_, fun t d x h1 h2 => ?_⟩
          · have := congrArg List.length fk
            rw [List.length_map] at this
            omega
          · rw [ek, ← fk, List.map_map]; rfl
          · exact pair_len pfe
          · obtain ⟨b, hb, s, rfl, rfl⟩ := pair_at pfe h1
            rw [hb] at h2; cases h2; rfl
        | 1, h1, h2 =>
          cases h1; cases h2
          refine ⟨a10, es10, ix10, rfl, ⟨⟨h10H, n90.symm⟩, by show (if (Hx a10).isNone = true then 1 else 0) = 1; rw [h10]; rfl⟩, h10E, ?_, ?_, tr_imp (fun i d x r => rt_mv mE (fun z => (st.someS z.1.1.1.1).1 rfl) (fun z => (st.someS z.1.1.1.1).2 rfl) (rt_Sd (fun b hb hb2 => ?_) r)) tru⟩
          · rw [pair_len pg]; have := okS.1; omega
          · rw [ek10, ← lkls, List.map_map]; rfl
          · refine ⟨⟨⟨⟨mx.back hb.1.1, fun z => ?_⟩, ?_⟩, hb.1.2⟩, hb.2⟩
            · exact hb2 (by rw [z]; exact hp9)
            · show (if (Hx b).isNone = true then 1 else 0) = 1
              rw [hb.1.1]; rfl
        | t + 2, h1, h2 => cases h1
end
end Pk

namespace Pk
open PySem PySem.Spec PyProof.Rows L2 Ssb
open Evl (Ex Ev EvT EvL EvA EvU)
def dT : D → String
  | .non => "NoneType" | .bl _ => "bool" | .int _ => "int" | .str _ => "str" | .lst _ => "list" | .tup _ => "tuple" | .dic _ => "dict"
theorem rep_ty {K : PySem.W.Frag} {H : Hp} {n : Nat} {S : Addr → Prop} {d : D} {v : V} (h : Rep H (n + 1) S d v) : TyOf K H v (.type (dT d)) := by
  cases d with
  | non => have e : v = .non := h; subst e; exact .non
  | bl b => have e : v = .bl b := h; subst e; exact .bl b
  | int i => have e : v = .int i := h; subst e; exact .int i
  | str s => have e : v = .str s := h; subst e; exact .str s
  | lst l => obtain ⟨a, xs, rfl, _, ha, _⟩ := h; exact .lst ha
  | tup l => obtain ⟨a, xs, rfl, ha, _⟩ := h; exact .tup ha
  | dic l => obtain ⟨a, es, rfl, _, ha, _⟩ := h; exact .dK ha
theorem ev_kind {K : PySem.W.Frag} {σ : L2.St} {H : Hp} {te : TE} {n : Nat} {S : Addr → Prop} {d : D} {v : V} {T : String} (b : Bool) (h : Ev te σ H v) (hr : Rep H (n + 1) S d v) (hk : kitB (dT d) T = some b) : Ev (tCB (rIsi K) (tCons te (tCons (tC (.ty T)) tNil))) σ H (.bl b) :=
  ev_isi h (fun H1 e1 => .base (rep_ty (rep_ex e1 hr))) (kit_ty hk)
/-- names of a dict are different, all the way down -/
def kn : Nat → D → Prop
  | n + 1, .lst l => ∀ x ∈ l, kn n x
  | n + 1, .tup l => ∀ x ∈ l, kn n x
  | n + 1, .dic l => (l.map (·.1)).Nodup ∧ ∀ p ∈ l, kn n p.2
  | _, _ => True
/-- and no tuples -/
def pl : Nat → D → Prop
  | n + 1, .lst l => ∀ x ∈ l, pl n x
  | _ + 1, .tup _ => False
  | _ + 1, .non => False
  | n + 1, .dic l => (l.map (·.1)).Nodup ∧ ∀ p ∈ l, pl n p.2
  | _, _ => True
theorem pl_kn : ∀ {n : Nat} {d : D}, pl n d → kn n d
  | 0, d, _ => by cases d <;> trivial
  | n + 1, .non, h => h.elim
  | n + 1, .bl _, _ => trivial
  | n + 1, .int _, _ => trivial
  | n + 1, .str _, _ => trivial
  | n + 1, .lst l, h => fun x hx => pl_kn (h x hx)
  | n + 1, .tup l, h => h.elim
  | n + 1, .dic l, h => ⟨h.1, fun p hp => pl_kn (h.2 p hp)⟩
def wfLs : Nat → List (Str × D) → Prop
  | 0, _ => False
  | m + 1, ls => ∀ p ∈ ls, ∃ rs, p.2 = .lst rs ∧ ∀ r ∈ rs, wfR m r
def cntN : Nat → List (Str × D) → Int
  | 0, _ => 0
  | m + 1, ls => (ls.map fun p => rowsL m p.2).sum
theorem wfR_ls {m : Nat} {r : D} (h : wfR m r) : ∃ l ls, r = .dic l ∧ l.lookup ("lists" : Str) = some (.dic ls) ∧ wfLs m ls ∧ rowsN m r = cntN m ls := by
  cases m with
  | zero => exact h.elim
  | succ m =>
    obtain ⟨l, ls, rfl, h1, h2⟩ := h
    exact ⟨l, ls, rfl, h1, h2, rowsN_eq h1⟩
section
variable {P : Program} {w : World} {K : PySem.W.Frag} {mg : Str → Option Value} {base : Heap} {C_Shape : Addr}
def spCnt (m : Nat) : Sp := fun vs H Q _ => ∃ (v : V) (n : Nat) (P : Addr → Prop) (ls : List (Str × D)), vs = [v] ∧ Rep H n P (.dic ls) v ∧ (ls.map (·.1)).Nodup ∧ kn n (.dic ls) ∧ wfLs m ls ∧ ∀ H', Ex H H' → Q (.int (cntN m ls)) H'
theorem ok__law_count (T : Txt K mg C_Shape) (R : Prg K mg C_Shape) : ∀ m, ∃ f fd, Fn P w K mg base "_law_count" (m + 1) ["_law_lists_here"] (spCnt m) f fd
  | 0 => by
    obtain ⟨f, fd, at_, F, kp⟩ := R._law_count
    refine ⟨f, fd, F.ok sc__law_count (fun vs H Q E h => ?_) (fun cdv A outer s H vs Q E hr h => ?_), at_, kp, F.binds (fun _ _ _ _ _ _ us hl => match us, hl with | [_], _ => rfl)⟩
    · obtain ⟨v, n, P, ls, rfl, _⟩ := h; rfl
    · obtain ⟨v, n, P, ls, rfl, _, _, _, h, _⟩ := h; exact h.elim
  | m + 1 => by
    obtain ⟨_, _, G__law_count⟩ := ok__law_count T R m
    obtain ⟨f, fd, at_, F, kp⟩ := R._law_count
    refine ⟨f, fd, F.ok sc__law_count (fun vs H Q E h => ?_) (fun cdv A outer s H vs Q E hr h => ?_), at_, kp, F.binds (fun _ _ _ _ _ _ us hl => match us, hl with | [_], _ => rfl)⟩
    · obtain ⟨v, n, P, ls, rfl, _⟩ := h; rfl
    · obtain ⟨v, n, PP, ls, rfl, hv, lnd, hkn, hw, k⟩ := h
      cases n with
      | zero => exact hv.elim
      | succ n =>
      obtain ⟨d, es, rfl, _, hd, _, pr⟩ := id hv
      have le := pair_len pr
      have ekeys := pair_keys pr
      refine ⟨_, (pss_cons (ps_set (i := 1) sc__law_count.nd rfl (Or.inl rfl) pe_int)
  (pss_cons (ps_lock (ps_for PassesOwn.never rfl (pi_keys (pv 0)) (pg_name (i := 2) sc__law_count.nd rfl (Or.inl rfl))
    (pss_one (ps_for PassesOwn.never rfl (show PI _ _ _ (iList K _) from pi_list (pe_dget (hu_of hr) (pv 0) (pv 2) (fun _ _ => rfl))) (pg_name (i := 3) sc__law_count.nd rfl (Or.inl rfl))
    (pss_one (ps_set (i := 1) sc__law_count.nd rfl (Or.inl rfl) (pe_op op_add (pe_op op_add (pv 1) pe_int) (pcl G__law_count hr (pa_cons (pe_dget (hu_of hr) (pv 3) pe_str (fun _ _ => rfl)) pa_nil)))))))))
  (pss_one (ps_ret (pv 1))))), ?_⟩
      refine Evl.q_asg Evl.ev_c fun H1 e1 => ?_
      have hd1 := e1 _ _ hd
      refine for_lock (J := fun od => Itk d od es) (xs := fun _ => none) hd1 (fun od R r => ⟨_, rfl, d, od, rfl, .inl ⟨es, upd_same, r⟩⟩) (fun od => walk_keys) (fun od j σ' H' => ∃ (t : Int) (o2 o3 : Option V), σ' = [some (.ref d), some (.int t), o2, o3] ∧ Ex (upd H1 d (.frz od (.dK es))) H' ∧ t = ((ls.take j).map fun p => rowsL m p.2).sum)
        (fun od => ⟨0, _, _, rfl, Ex.refl _, rfl⟩) (fun od j σ' H' _ ⟨_, _, _, _, e, _⟩ => e _ _ upd_same) (fun od j x σ' H0 H' hlt pv y => ?_) fun od σ' H' pv => ?_
      · obtain ⟨t, o2, o3, rfl, e, et⟩ := pv
        obtain ⟨rfl, kk, vj, hkv, rfl⟩ := y
        obtain ⟨⟨nm, dj⟩, hdj, hk, hrj⟩ := pair_back pr hkv
        have hk : kk = Sum.inr nm := hk
        subst hk
        obtain ⟨rs, erj, hrs⟩ := hw _ (List.mem_of_getElem? hdj)
        have erj : dj = .lst rs := erj
        subst erj
        have hvj : valV es (Sum.inr nm : Key) = some vj := valV_at (by rw [ekeys]; exact inr_nd lnd) hkv
        have hknj := hkn.2 _ (List.mem_of_getElem? hdj)
        have hrj' := rep_in hd1 e (rep_ex e1 hrj)
        cases n with
        | zero => exact hrj'.elim
        | succ n =>
        obtain ⟨ra, xs, rfl, _, hra, l5, pp⟩ := id hrj'
        have lx := pair_len pp
        refine ⟨_, rfl, _, rfl, d, .ref ra, rfl, .inl ⟨es, Sum.inr nm, .inr ⟨od, e _ _ upd_same⟩, rfl, hvj.symm⟩, ra, rfl, ⟨_, Evl.sq_of hra⟩, ?_⟩
        refine for_list (K := K) (a := ra) (xs := xs) (fun i σ' H2 => ∃ (u : Int) (o3 : Option V), σ' = [some (.ref d), some (.int u), some (.str nm), o3] ∧ Ex H' H2 ∧ u = t + (i : Int) + ((rs.take i).map (rowsN m)).sum) ⟨t, _, rfl, Ex.refl _, by simp⟩ (fun i σ' H2 _ ⟨_, _, _, e2, _⟩ => Evl.sq_of (e2 _ _ hra)) (fun i x σ' H2 hx pv => ?_) fun σ' H2 pv => ?_
        · obtain ⟨u, o3, rfl, e2, eu⟩ := pv
          obtain ⟨r, hr1, hr2⟩ := pair_back pp hx
          obtain ⟨l, ls', rfl, hl, hwl, en⟩ := wfR_ls (hrs r (List.mem_of_getElem? hr1))
          have hr3 := rep_ex e2 hr2
          have hkr := hknj _ (List.mem_of_getElem? hr1)
          cases n with
          | zero => exact hr3.elim
          | succ n =>
          obtain ⟨rv, res, rfl, _, hrv, _, rpr⟩ := id hr3
          obtain ⟨vl, hvl, hrl⟩ := rep_entry rpr hl
          have hkl : kn n (.dic ls') := hkr.2 (("lists" : Str), .dic ls') (by
            have : ∀ {l : List (Str × D)} {k : Str} {d : D}, l.lookup k = some d → (k, d) ∈ l := by
              intro l k d h
              induction l with
              | nil => cases h
              | cons p l ih =>
                obtain ⟨j, d0⟩ := p
                rw [lk_cons] at h
                by_cases c : k = j
                · rw [if_pos c] at h; cases h; rw [c]; exact List.mem_cons_self
                · rw [if_neg c] at h; exact List.mem_cons_of_mem _ (ih h)
            exact this hl)
          refine Evl.s_asg (Evl.ev_op (Evl.ev_op (Evl.ev_var rfl) Evl.ev_c Evl.rv_I0) (ev_fn (Evl.ea_cons (ev_get (Evl.ev_var rfl) Evl.ev_c (.inl hrv) hvl) Evl.ea_nil) fun H4 e4 Q' q' => ⟨vl, n, _, ls', rfl, rep_ex e4 hrl, ?_, hkl, hwl, q'⟩) Evl.rv_I0) fun H4 e4 => ⟨_, _, rfl, e2.trans e4, ?_⟩
          · cases n with
            | zero => exact hrl.elim
            | succ n => exact hkl.1
          · rw [take_snoc hr1, List.map_append, List.sum_append, eu]
            simp only [List.map_cons, List.map_nil, List.sum_cons, List.sum_nil]
            rw [en]; omega
        · obtain ⟨u, o3, rfl, e2, eu⟩ := pv
          refine ⟨u, _, _, rfl, e.trans e2, ?_⟩
          rw [take_snoc hdj, List.map_append, List.sum_append, eu, et, ← lx, List.take_of_length_le (Nat.le_refl _)]
          simp only [List.map_cons, List.map_nil, List.sum_cons, List.sum_nil]
          show _ = _ + ((rs.length : Int) + (rs.map (rowsN m)).sum + 0)
          omega
      · obtain ⟨t, o2, o3, rfl, e, et⟩ := pv
        rw [← le, List.take_of_length_le (Nat.le_refl _)] at et
        subst et
        exact Evl.s_ret (Evl.ev_var rfl) fun H7 e7 => k H7 (e1.trans ((unlock hd1 e).trans e7))
end
end Pk

namespace Pk
open PySem PySem.Spec PyProof.Rows L2 Ssb
open Evl (Ex Ev EvT EvL EvA EvU)
theorem kit_list : ∀ t ∈ ["NoneType", "bool", "int", "str", "tuple", "dict"], kitB t "list" = some false := by decide +kernel
theorem kit_tuple : ∀ t ∈ ["NoneType", "bool", "int", "str", "list", "dict"], kitB t "tuple" = some false := by decide +kernel
theorem kit_dict : ∀ t ∈ ["NoneType", "bool", "int", "str", "list", "tuple"], kitB t "dict" = some false := by decide +kernel
def turn : Nat → D → D
  | n + 1, .lst l => .lst (l.map (turn n))
  | n + 1, .dic l => .dic ((l.map fun p => (p.1, turn n p.2)).reverse)
  | _, d => d
section
variable {P : Program} {w : World} {K : PySem.W.Frag} {mg : Str → Option Value} {base : Heap} {C_Shape : Addr}
def spCopy (n : Nat) : Sp := fun vs H Q _ => ∃ (v : V) (P : Addr → Prop) (d : D), vs = [v] ∧ Rep H n P d v ∧ kn n d ∧ ∀ H' v', Ex H H' → Rep H' n (fun b => H b = none) d v' → Q v' H'
theorem ok__law_copy (T : Txt K mg C_Shape) (R : Prg K mg C_Shape) : ∀ n, ∃ f fd, Fn P w K mg base "_law_copy" (n + 1) ["_law_value"] (spCopy n) f fd
  | 0 => by
    obtain ⟨f, fd, at_, F, kp⟩ := R._law_copy
    refine ⟨f, fd, F.ok sc__law_copy (fun vs H Q E h => ?_) (fun cdv A outer s H vs Q E hr h => ?_), at_, kp, F.binds (fun _ _ _ _ _ _ us hl => match us, hl with | [_], _ => rfl)⟩
    · obtain ⟨v, P, d, rfl, _⟩ := h; rfl
    · obtain ⟨v, P, d, rfl, h, _⟩ := h; exact h.elim
  | n + 1 => by
    obtain ⟨_, _, G__law_copy⟩ := ok__law_copy T R n
    obtain ⟨f, fd, at_, F, kp⟩ := R._law_copy
    refine ⟨f, fd, F.ok sc__law_copy (fun vs H Q E h => ?_) (fun cdv A outer s H vs Q E hr h => ?_), at_, kp, F.binds (fun _ _ _ _ _ _ us hl => match us, hl with | [_], _ => rfl)⟩
    · obtain ⟨v, P, d, rfl, _⟩ := h; rfl
    · obtain ⟨v, PP, d, rfl, hv, hkn, k⟩ := h
      refine ⟨_, (pss_cons (ps_if (pt_val (pe_callB (r := rIsi K) call_isi (by rfl) T.isinstance (by decide +kernel) (pa_cons (pv 0) (pa_cons (pe_bltn (v := .ty "list") (by rfl) T.list boot_list rfl) pa_nil)))) (pss_one (ps_ret (pe_lc (own := [("_law_part", 3)]) rfl sc__law_copy.nd (show PI _ _ _ (iList K _) from pi_list (pv 0)) (blkOk_by (own := [("_law_part", 3)]) (N := ["_law_value", "_law_result", "_law_key", "_law_part"]) (sc := defScope s__law_copy) (by decide +kernel)) (fun _ _ _ _ _ => (pg_name (i := 3) sc__law_copy.nd rfl (Or.inl rfl))) (fun _ _ _ _ _ => pts_nil) (fun _ _ _ _ _ => (pcl G__law_copy hr (pa_cons (pv 3) pa_nil)))))) pss_nil)
  (pss_cons (ps_if (pt_val (pe_callB (r := rIsi K) call_isi (by rfl) T.isinstance (by decide +kernel) (pa_cons (pv 0) (pa_cons (pe_bltn (v := .ty "tuple") (by rfl) T.tuple boot_tuple rfl) pa_nil)))) (pss_one (ps_ret (pe_callTy (r := rTupA K) call_tuple_of (by rfl) T.tuple (by decide +kernel) (pa_cons (pe_lc (own := [("_law_part", 3)]) rfl sc__law_copy.nd (show PI _ _ _ (iTup K _) from pi_tup (pv 0)) (blkOk_by (own := [("_law_part", 3)]) (N := ["_law_value", "_law_result", "_law_key", "_law_part"]) (sc := defScope s__law_copy) (by decide +kernel)) (fun _ _ _ _ _ => (pg_name (i := 3) sc__law_copy.nd rfl (Or.inl rfl))) (fun _ _ _ _ _ => pts_nil) (fun _ _ _ _ _ => (pcl G__law_copy hr (pa_cons (pv 3) pa_nil)))) pa_nil)))) pss_nil)
  (pss_cons (ps_if (pt_val (pe_callB (r := rIsi K) call_isi (by rfl) T.isinstance (by decide +kernel) (pa_cons (pv 0) (pa_cons (pe_bltn (v := .ty "dict") (by rfl) T.dict boot_dict rfl) pa_nil)))) (pss_cons (ps_set (i := 1) sc__law_copy.nd rfl (Or.inl rfl) pe_dnewK)
  (pss_cons (ps_lock (ps_for PassesOwn.never rfl (pi_keys (pv 0)) (pg_name (i := 2) sc__law_copy.nd rfl (Or.inl rfl))
    (pss_one (ps_dput (hu_of hr) (pv 1) (pv 2) (pcl G__law_copy hr (pa_cons (pe_dget (hu_of hr) (pv 0) (pv 2) (fun _ _ => rfl)) pa_nil)) rfl))))
  (pss_one (ps_ret (pv 1))))) pss_nil)
  (pss_one (ps_ret (pv 0)))))), ?_⟩
      -- a part of a list or a tuple
      have kidL : ∀ {l : List D} {xs : List V} {H1 : Hp} {Q2 : VK} {J : It}, Walk J xs.length (fun H' => Ex H1 H') (YAt xs) → xs.length ≤ 100000 → Paired (fun d x => Rep H1 n PP d x) l xs → (∀ x ∈ l, kn n x) → (∀ H' Dl ys, H1 Dl = none → Ex H1 H' → H' Dl = some (.lst ys) → Paired (fun d x => Rep H' n (fun b => H1 b = none ∧ b ≠ Dl) d x) l ys → Q2 (.ref Dl) H') →
          ∀ Dl, H1 Dl = none → ∃ W : Nat → Nat → Hp → Prop, (∃ m, W 0 m (upd H1 Dl (.lst []))) ∧ ∀ i m H, W i m H → (J.stop i H ∧ Q2 (.ref Dl) H) ∨ (J.go i H ∧ ∃ Nx : Hp → Prop, (∀ H', Nx H' → ∃ m', m' < m ∧ W (i + 1) m' H') ∧ ∀ x H', J.yld i H x H' → gName 3 x (wipe [some v, none, none, none] [3]) H' fun σ2 H2 => wipe σ2 [3] = wipe [some v, none, none, none] [3] ∧ tYes σ2 H2 fun b H3 =>
            if b = true then tCall (spCopy n) [] E0 (tCons (tVar 3) tNil) σ2 H3 fun y H4 => ∃ acc, H4 Dl = some (.lst acc) ∧ acc.length < sizeLine ∧ Nx (upd H4 Dl (.lst (acc ++ [y]))) else Nx H3) := by
        intro l xs H1 Q2 J wk l5 pr hk q Dl hD
        refine lc_it wk (fun i H' => Ex H1 H' ∧ ∃ ys, H' Dl = some (.lst ys) ∧ Paired (fun d x => Rep H' n (fun b => H1 b = none ∧ b ≠ Dl) d x) (l.take i) ys) ⟨Ex.new hD, [], upd_same, .nil⟩ (fun i H' _ p => p.1) (fun i x H0 H' hi pv y => ?_) fun H' pv => ?_
        · obtain ⟨e, ys, hys, pys⟩ := pv
          obtain ⟨rfl, hx⟩ := y
          obtain ⟨dx, hdx, hrx⟩ := pair_back pr hx
          refine ⟨rfl, ?_⟩
          refine yes_go ?_
          refine ⟨_, rfl, x, PP, dx, rfl, rep_ex e hrx, hk _ (List.mem_of_getElem? hdx), fun H3 v3 e3 hr3 => ⟨ys, e3 _ _ hys, ?_, Ex.mut (e.trans e3) hD, ys ++ [v3], upd_same, ?_⟩⟩
          · rw [← pair_len pys, List.length_take]; exact Evl.sz_lt (by omega)
          · rw [take_snoc hdx]
            refine pair_snoc (pair_imp pys fun a b h => rep_upd (e3 _ _ hys) (fun _ z => nomatch z) (fun b z => z.2) (rep_ex e3 h)) (rep_upd (e3 _ _ hys) (fun _ z => nomatch z) (fun b z => z.2) (rep_S (fun b hb => ⟨Evl.fresh_back e hb, fun z => by rw [z, hys] at hb; cases hb⟩) hr3))
        · obtain ⟨e, ys, hys, pys⟩ := pv
          rw [← pair_len pr, List.take_of_length_le (Nat.le_refl _)] at pys
          exact q H' Dl ys hD e hys pys
      have leaf : ∀ {H1 : Hp}, Ex H H1 → (∀ l, d ≠ .lst l) → (∀ l, d ≠ .tup l) → (∀ l, d ≠ .dic l) → Q v H1 := fun {H1} e1 a b c => by
        refine k H1 v e1 ?_
        cases d with
        | lst l => exact absurd rfl (a l)
        | tup l => exact absurd rfl (b l)
        | dic l => exact absurd rfl (c l)
        | non => exact hv
        | bl b => exact hv
        | int i => exact hv
        | str s => exact hv
      have skip1 : (∀ l, d ≠ .lst l) → kitB (dT d) "list" = some false := fun a => by
        refine kit_list _ ?_
        cases d with
        | lst l => exact absurd rfl (a l)
        | _ => simp [dT]
      have skip2 : (∀ l, d ≠ .tup l) → kitB (dT d) "tuple" = some false := fun a => by
        refine kit_tuple _ ?_
        cases d with
        | tup l => exact absurd rfl (a l)
        | _ => simp [dT]
      have skip3 : (∀ l, d ≠ .dic l) → kitB (dT d) "dict" = some false := fun a => by
        refine kit_dict _ ?_
        cases d with
        | dic l => exact absurd rfl (a l)
        | _ => simp [dT]
      by_cases c1 : ∃ l, d = .lst l
      · obtain ⟨l, rfl⟩ := c1
        obtain ⟨a, xs, rfl, _, ha, l5, pr⟩ := id hv
        refine Evl.q_when (b := true) (Evl.et_B (ev_kind (d := .lst l) true (Evl.ev_var rfl) hv (show kitB "list" "list" = some true by decide +kernel))) (fun _ H1 e1 => ?_) (fun h => nomatch h)
        have hv1 := pair_imp pr fun a b h => rep_ex e1 h
        refine ⟨_, rfl, a, rfl, ⟨_, Evl.sq_of (e1 _ _ ha)⟩, kidL (walk_list.mono (fun H' e => Evl.sq_of (e _ _ (e1 _ _ ha))) fun i H v H' _ _ y => y) (by rw [← pair_len pr]; exact l5) hv1 hkn fun H' Dl ys hD e hys pys => ?_⟩
        exact k H' _ (e1.trans e) ⟨Dl, ys, rfl, Evl.fresh_back e1 hD, hys, l5, pair_imp pys fun a b h => rep_S (fun b hb => Evl.fresh_back e1 hb.1) h⟩
      have c1 : ∀ l, d ≠ .lst l := fun l e => c1 ⟨l, e⟩
      refine Evl.q_when (b := false) (Evl.et_B (ev_kind false (Evl.ev_var rfl) hv (skip1 c1))) (fun h => nomatch h) fun _ H1 e1 => ?_
      have hv1 := rep_ex e1 hv
      by_cases c2 : ∃ l, d = .tup l
      · obtain ⟨l, rfl⟩ := c2
        obtain ⟨a, xs, rfl, ha, l5, pr⟩ := id hv1
        refine Evl.q_when (b := true) (Evl.et_B (ev_kind (d := .tup l) true (Evl.ev_var rfl) hv1 (show kitB "tuple" "tuple" = some true by decide +kernel))) (fun _ H2 e2 => ?_) (fun h => nomatch h)
        have hv2 := pair_imp pr fun a b h => rep_ex e2 h
        have e12 := e1.trans e2
        refine ⟨_, rfl, a, rfl, ⟨_, Evl.st_of (e2 _ _ ha)⟩, kidL (Q2 := fun x H' => rTupA K [x] H' Q) (walk_tup.mono (fun H' e => Evl.st_of (e _ _ (e2 _ _ ha))) fun i H v H' _ _ y => y) (by rw [← pair_len pr]; exact l5) hv2 hkn fun H' Dl ys hD e hys pys => ?_⟩
        refine ⟨Dl, ys, rfl, .inl ⟨Evl.sq_of hys, fun t ht => ?_⟩⟩
        exact k _ _ (e12.trans (e.trans (Ex.new ht))) ⟨t, ys, rfl, upd_same, l5, pair_imp pys fun a b h => rep_ex (Ex.new ht) (rep_S (fun b hb => Evl.fresh_back e12 hb.1) h)⟩
      have c2 : ∀ l, d ≠ .tup l := fun l e => c2 ⟨l, e⟩
      refine Evl.q_when (b := false) (Evl.et_B (ev_kind false (Evl.ev_var rfl) hv1 (skip2 c2))) (fun h => nomatch h) fun _ H2 e2 => ?_
      have hv2 := rep_ex e2 hv1
      have e12 := e1.trans e2
      by_cases c3 : ∃ l, d = .dic l
      · obtain ⟨l, rfl⟩ := c3
        obtain ⟨a, es, rfl, _, ha, l5, pr⟩ := id hv2
        have ekeys := pair_keys pr
        have le := pair_len pr
        refine Evl.q_when (b := true) (Evl.et_B (ev_kind (d := .dic l) true (Evl.ev_var rfl) hv2 (show kitB "dict" "dict" = some true by decide +kernel))) (fun _ H3 e3 => ?_) (fun h => nomatch h)
        have ha3 := e3 _ _ ha
        have e13 := e12.trans e3
        intro a1 h1
        have n1a : a1 ≠ a := fun e => by rw [e, ha3] at h1; cases h1
        refine for_lock (J := fun od => Itk a od es) (xs := fun _ => none) (d := a) (es := es) (by rw [upd_ne n1a.symm]; exact ha3) (fun od R r => ⟨_, rfl, a, od, rfl, .inl ⟨es, upd_same, r⟩⟩) (fun od => walk_keys) (fun od j σ' H' => ∃ (es' : List (Key × V)) (o2 : Option V), σ' = [some (.ref a), some (.ref a1), o2, none] ∧ Ex (upd H3 a (.frz od (.dK es))) H' ∧ H' a1 = some (.dK es') ∧ Paired (fun (x : Str × D) (e : Key × V) => e.1 = Sum.inr x.1 ∧ Rep H' n (fun b => H3 b = none ∧ b ≠ a1) x.2 e.2) (l.take j) es')
          (fun od => ⟨[], _, rfl, fun b o hb => ?_, by rw [upd_ne n1a]; exact upd_same, .nil⟩) (fun od j σ' H' _ ⟨_, _, _, e, _⟩ => e _ _ upd_same) (fun od j x σ' H0 H' hlt pv y => ?_) fun od σ' H' pv => ?_
        · by_cases e : b = a
          · rw [e] at hb ⊢; rw [upd_same] at hb ⊢; exact hb
          · rw [upd_ne e] at hb ⊢
            have : b ≠ a1 := fun z => by rw [z, h1] at hb; cases hb
            rw [upd_ne this]; exact hb
        · obtain ⟨es', o2, rfl, e, h1', pes⟩ := pv
          obtain ⟨rfl, kk, vj, hkv, rfl⟩ := y
          obtain ⟨⟨nm, dj⟩, hdj, hk, hrj⟩ := pair_back pr hkv
          have hk : kk = Sum.inr nm := hk
          subst hk
          have hvj : valV es (Sum.inr nm : Key) = some vj := valV_at (by rw [ekeys]; exact inr_nd hkn.1) hkv
          have hrj' := rep_in ha3 e (rep_ex e3 hrj)
          refine ⟨_, rfl, _, rfl, a, vj, rfl, .inl ⟨es, Sum.inr nm, .inr ⟨od, e _ _ upd_same⟩, rfl, hvj.symm⟩, vj, _, dj, rfl, hrj', hkn.2 _ (List.mem_of_getElem? hdj), fun H4 v4 e4 hr4 => ?_⟩
          have nv : valV es' (Sum.inr nm : Key) = none := vV_no (by rw [pair_keys pes, List.map_take]; exact inr_not (not_take hkn.1 (by rw [List.getElem?_map, hdj]; rfl)))
          refine ⟨_, rfl, _, rfl, a1, _, rfl, .inl ⟨es', Sum.inr nm, e4 _ _ h1', rfl, ?_, rfl⟩, es' ++ [(Sum.inr nm, v4)], _, rfl, Ex.mut (e.trans e4) (by rw [upd_ne n1a]; exact h1), by rw [upd_same, putK_new _ nv], ?_⟩
          · rw [← pair_len pes, List.length_take]; exact Evl.sz_lt (by omega)
          · rw [take_snoc hdj]
            have back : ∀ b, H' b = none → H3 b = none := fun b hb => by
              have := Evl.fresh_back e hb
              by_cases z : b = a
              · rw [z, upd_same] at this; cases this
              · rw [upd_ne z] at this; exact this
            exact pair_snoc (pair_imp pes fun a b h => ⟨h.1, rep_upd (e4 _ _ h1') (fun _ z => nomatch z) (fun b z => z.2) (rep_ex e4 h.2)⟩) ⟨rfl, rep_upd (e4 _ _ h1') (fun _ z => nomatch z) (fun b z => z.2) (rep_S (fun b hb => ⟨back b hb, fun z => by rw [z, h1'] at hb; cases hb⟩) hr4)⟩
        · obtain ⟨es', o2, rfl, e, h1', pes⟩ := pv
          rw [← le, List.take_of_length_le (Nat.le_refl _)] at pes
          have eu : Ex H3 (upd H' a (.dK es)) := unlock ha3 e
          refine Evl.s_ret (Evl.ev_var rfl) fun H7 e7 => k H7 _ (e13.trans (eu.trans e7)) (rep_ex e7 ⟨a1, es', rfl, Evl.fresh_back e13 h1, by rw [upd_ne n1a]; exact h1', l5, pair_imp pes fun x en h => ⟨h.1, ?_⟩⟩)
          refine rep_S (fun b hb => ⟨Evl.fresh_back e13 hb.1, hb.2⟩) (rep_upd (e _ _ upd_same) (fun _ z => nomatch z) (fun b z ez => ?_) h.2)
          rw [ez] at z
          rw [ha3] at z
          exact nomatch z.1
      have c3 : ∀ l, d ≠ .dic l := fun l e => c3 ⟨l, e⟩
      refine Evl.q_when (b := false) (Evl.et_B (ev_kind false (Evl.ev_var rfl) hv2 (skip3 c3))) (fun h => nomatch h) fun _ H3 e3 => Evl.s_ret (Evl.ev_var rfl) fun H4 e4 => leaf (e12.trans (e3.trans e4)) c1 c2 c3
end
end Pk

namespace Pk
open PySem PySem.Spec PyProof.Rows L2 Ssb
open Evl (Ex Ev EvT EvL EvA EvU)
def sameD : Nat → D → D → Prop
  | n + 1, d1, .bl b => d1 = .bl b
  | n + 1, d1, .int i => d1 = .int i
  | n + 1, d1, .str s => d1 = .str s
  | n + 1, d1, .lst l2 => ∃ l1, d1 = .lst l1 ∧ Paired (fun x y => sameD n x y) l1 l2
  | n + 1, d1, .dic l2 => ∃ l1, d1 = .dic l1 ∧ l1.length = l2.length ∧ (l2.map (·.1)).Nodup ∧ ∀ p ∈ l2, ∃ x, l1.lookup p.1 = some x ∧ sameD n x p.2
  | _, _, _ => False
section
variable {P : Program} {w : World} {K : PySem.W.Frag} {mg : Str → Option Value} {base : Heap} {C_Shape : Addr}
def spTurn (n : Nat) : Sp := fun vs H Q _ => ∃ (v : V) (P : Addr → Prop) (d : D), vs = [v] ∧ Rep H n P d v ∧ pl n d ∧ ∀ H' v', Ex H H' → Rep H' n (fun b => H b = none) (turn n d) v' → Q v' H'
theorem ok__law_turned (T : Txt K mg C_Shape) (R : Prg K mg C_Shape) : ∀ n, ∃ f fd, Fn P w K mg base "_law_turned" (n + 1) ["_law_value"] (spTurn n) f fd
  | 0 => by
    obtain ⟨f, fd, at_, F, kp⟩ := R._law_turned
    refine ⟨f, fd, F.ok sc__law_turned (fun vs H Q E h => ?_) (fun cdv A outer s H vs Q E hr h => ?_), at_, kp, F.binds (fun _ _ _ _ _ _ us hl => match us, hl with | [_], _ => rfl)⟩
    · obtain ⟨v, P, d, rfl, _⟩ := h; rfl
    · obtain ⟨v, P, d, rfl, h, _⟩ := h; exact h.elim
  | n + 1 => by
    obtain ⟨_, _, G__law_turned⟩ := ok__law_turned T R n
    obtain ⟨f, fd, at_, F, kp⟩ := R._law_turned
    refine ⟨f, fd, F.ok sc__law_turned (fun vs H Q E h => ?_) (fun cdv A outer s H vs Q E hr h => ?_), at_, kp, F.binds (fun _ _ _ _ _ _ us hl => match us, hl with | [_], _ => rfl)⟩
    · obtain ⟨v, P, d, rfl, _⟩ := h; rfl
    · obtain ⟨v, PP, d, rfl, hv, hkn, k⟩ := h
      refine ⟨_, (pss_cons (ps_if (pt_val (pe_callB (r := rIsi K) call_isi (by rfl) T.isinstance (by decide +kernel) (pa_cons (pv 0) (pa_cons (pe_bltn (v := .ty "list") (by rfl) T.list boot_list rfl) pa_nil)))) (pss_one (ps_ret (pe_lc (own := [("_law_part", 3)]) rfl sc__law_turned.nd (show PI _ _ _ (iList K _) from pi_list (pv 0)) (blkOk_by (own := [("_law_part", 3)]) (N := ["_law_value", "_law_result", "_law_key", "_law_part"]) (sc := defScope s__law_turned) (by decide +kernel)) (fun _ _ _ _ _ => (pg_name (i := 3) sc__law_turned.nd rfl (Or.inl rfl))) (fun _ _ _ _ _ => pts_nil) (fun _ _ _ _ _ => (pcl G__law_turned hr (pa_cons (pv 3) pa_nil)))))) pss_nil)
  (pss_cons (ps_if (pt_val (pe_callB (r := rIsi K) call_isi (by rfl) T.isinstance (by decide +kernel) (pa_cons (pv 0) (pa_cons (pe_bltn (v := .ty "dict") (by rfl) T.dict boot_dict rfl) pa_nil)))) (pss_cons (ps_set (i := 1) sc__law_turned.nd rfl (Or.inl rfl) pe_dnewK)
  (pss_cons (ps_for PassesOwn.never rfl (pi_reversed (by rfl) T.reversed (pa_cons (pe_callTy (call_listD rfl) (by rfl) T.list (by decide +kernel) (pa_cons (pv 0) pa_nil)) pa_nil)) (pg_name (i := 2) sc__law_turned.nd rfl (Or.inl rfl))
    (pss_one (ps_dput (hu_of hr) (pv 1) (pv 2) (pcl G__law_turned hr (pa_cons (pe_dget (hu_of hr) (pv 0) (pv 2) (fun _ _ => rfl)) pa_nil)) rfl)))
  (pss_one (ps_ret (pv 1))))) pss_nil)
  (pss_one (ps_ret (pv 0))))), ?_⟩
      have kidL : ∀ {l : List D} {xs : List V} {H1 : Hp} {Q2 : VK} {J : It}, Walk J xs.length (fun H' => Ex H1 H') (YAt xs) → xs.length ≤ 100000 → Paired (fun d x => Rep H1 n PP d x) l xs → (∀ x ∈ l, pl n x) → (∀ H' Dl ys, H1 Dl = none → Ex H1 H' → H' Dl = some (.lst ys) → Paired (fun d x => Rep H' n (fun b => H1 b = none ∧ b ≠ Dl) d x) (l.map (turn n)) ys → Q2 (.ref Dl) H') →
          ∀ Dl, H1 Dl = none → ∃ W : Nat → Nat → Hp → Prop, (∃ m, W 0 m (upd H1 Dl (.lst []))) ∧ ∀ i m H, W i m H → (J.stop i H ∧ Q2 (.ref Dl) H) ∨ (J.go i H ∧ ∃ Nx : Hp → Prop, (∀ H', Nx H' → ∃ m', m' < m ∧ W (i + 1) m' H') ∧ ∀ x H', J.yld i H x H' → gName 3 x (wipe [some v, none, none, none] [3]) H' fun σ2 H2 => wipe σ2 [3] = wipe [some v, none, none, none] [3] ∧ tYes σ2 H2 fun b H3 =>
            if b = true then tCall (spTurn n) [] E0 (tCons (tVar 3) tNil) σ2 H3 fun y H4 => ∃ acc, H4 Dl = some (.lst acc) ∧ acc.length < sizeLine ∧ Nx (upd H4 Dl (.lst (acc ++ [y]))) else Nx H3) := by
        intro l xs H1 Q2 J wk l5 pr hk q Dl hD
        refine lc_it wk (fun i H' => Ex H1 H' ∧ ∃ ys, H' Dl = some (.lst ys) ∧ Paired (fun d x => Rep H' n (fun b => H1 b = none ∧ b ≠ Dl) d x) ((l.map (turn n)).take i) ys) ⟨Ex.new hD, [], upd_same, .nil⟩ (fun i H' _ p => p.1) (fun i x H0 H' hi pv y => ?_) fun H' pv => ?_
        · obtain ⟨e, ys, hys, pys⟩ := pv
          obtain ⟨rfl, hx⟩ := y
          obtain ⟨dx, hdx, hrx⟩ := pair_back pr hx
          refine ⟨rfl, ?_⟩
          refine yes_go ?_
          refine ⟨_, rfl, x, PP, dx, rfl, rep_ex e hrx, hk _ (List.mem_of_getElem? hdx), fun H3 v3 e3 hr3 => ⟨ys, e3 _ _ hys, ?_, Ex.mut (e.trans e3) hD, ys ++ [v3], upd_same, ?_⟩⟩
          · rw [← pair_len pys, List.length_take]; exact Evl.sz_lt (by omega)
          · rw [take_snoc (show (l.map (turn n))[i]? = some (turn n dx) by rw [List.getElem?_map, hdx]; rfl)]
            refine pair_snoc (pair_imp pys fun a b h => rep_upd (e3 _ _ hys) (fun _ z => nomatch z) (fun b z => z.2) (rep_ex e3 h)) (rep_upd (e3 _ _ hys) (fun _ z => nomatch z) (fun b z => z.2) (rep_S (fun b hb => ⟨Evl.fresh_back e hb, fun z => by rw [z, hys] at hb; cases hb⟩) hr3))
        · obtain ⟨e, ys, hys, pys⟩ := pv
          rw [← pair_len pr, List.take_of_length_le (by rw [List.length_map]; exact Nat.le_refl _)] at pys
          exact q H' Dl ys hD e hys pys
      have skip1 : (∀ l, d ≠ .lst l) → kitB (dT d) "list" = some false := fun a => by
        refine kit_list _ ?_
        cases d with
        | lst l => exact absurd rfl (a l)
        | _ => simp [dT]
      have skip3 : (∀ l, d ≠ .dic l) → kitB (dT d) "dict" = some false := fun a => by
        refine kit_dict _ ?_
        cases d with
        | dic l => exact absurd rfl (a l)
        | _ => simp [dT]
      by_cases c1 : ∃ l, d = .lst l
      · obtain ⟨l, rfl⟩ := c1
        obtain ⟨a, xs, rfl, _, ha, l5, pr⟩ := id hv
        refine Evl.q_when (b := true) (Evl.et_B (ev_kind (d := .lst l) true (Evl.ev_var rfl) hv (show kitB "list" "list" = some true by decide +kernel))) (fun _ H1 e1 => ?_) (fun h => nomatch h)
        have hv1 := pair_imp pr fun a b h => rep_ex e1 h
        refine ⟨_, rfl, a, rfl, ⟨_, Evl.sq_of (e1 _ _ ha)⟩, kidL (walk_list.mono (fun H' e => Evl.sq_of (e _ _ (e1 _ _ ha))) fun i H v H' _ _ y => y) (by rw [← pair_len pr]; exact l5) hv1 hkn fun H' Dl ys hD e hys pys => ?_⟩
        exact k H' _ (e1.trans e) ⟨Dl, ys, rfl, Evl.fresh_back e1 hD, hys, by rw [List.length_map]; exact l5, pair_imp pys fun a b h => rep_S (fun b hb => Evl.fresh_back e1 hb.1) h⟩
      have c1 : ∀ l, d ≠ .lst l := fun l e => c1 ⟨l, e⟩
      refine Evl.q_when (b := false) (Evl.et_B (ev_kind false (Evl.ev_var rfl) hv (skip1 c1))) (fun h => nomatch h) fun _ H1 e12 => ?_
      have hv2 := rep_ex e12 hv
      by_cases c3 : ∃ l, d = .dic l
      · obtain ⟨l, rfl⟩ := c3
        obtain ⟨a, es, rfl, _, ha, l5, pr⟩ := id hv2
        have ekeys := pair_keys pr
        have le := pair_len pr
        refine Evl.q_when (b := true) (Evl.et_B (ev_kind (d := .dic l) true (Evl.ev_var rfl) hv2 (show kitB "dict" "dict" = some true by decide +kernel))) (fun _ H3 e3 => ?_) (fun h => nomatch h)
        have ha3 := e3 _ _ ha
        have e13 := e12.trans e3
        intro a1 h1
        have n1a : a1 ≠ a := fun e => by rw [e, ha3] at h1; cases h1
        refine ⟨_, rfl, a, es, rfl, .inl (by rw [upd_ne n1a.symm]; exact ha3), fun p hp => ⟨p, _, rfl, Evl.sq_of upd_same, ?_⟩⟩
        have np1 : p ≠ a1 := fun e => by rw [e, upd_same] at hp; cases hp
        have e4 : Ex H3 (upd (upd H3 a1 (.dK [])) p (.lst (es.map fun kv => kV kv.1))) := (Ex.new h1).trans (Ex.new hp)
        have hp3 : H3 p = none := Evl.fresh_back (Ex.new h1) hp
        refine for_it walk_rev (fun j σ' H' => ∃ (es' : List (Key × V)) (o2 : Option V), σ' = [some (.ref a), some (.ref a1), o2, none] ∧ Ex H3 H' ∧ H' p = some (.lst (es.map fun kv => kV kv.1)) ∧ H' a1 = some (.dK es') ∧ Paired (fun (x : Str × D) (e : Key × V) => e.1 = Sum.inr x.1 ∧ Rep H' n (fun b => H3 b = none ∧ b ≠ a1) x.2 e.2) (((l.map fun p => (p.1, turn n p.2)).reverse).take j) es')
          ⟨[], _, rfl, e4, upd_same, by rw [upd_ne np1.symm]; exact upd_same, .nil⟩ (fun j σ' H' _ ⟨_, _, _, _, h, _⟩ => Evl.sq_of h) (fun j x σ' H0 H' hj pv y => ?_) fun σ' H' pv => ?_
        · obtain ⟨es', o2, rfl, e, hpH, h1', pes⟩ := pv
          obtain ⟨rfl, hx⟩ := y
          rw [List.length_map] at hj hx
          rw [List.getElem?_map] at hx
          cases hkv : es[es.length - 1 - j]? with
          | none => rw [hkv] at hx; cases hx
          | some kv =>
          rw [hkv] at hx
          obtain ⟨kk, vj⟩ := kv
          cases hx
          obtain ⟨⟨nm, dj⟩, hdj, hk, hrj⟩ := pair_back pr hkv
          have hk : kk = Sum.inr nm := hk
          subst hk
          have hrev : ((l.map fun p => (p.1, turn n p.2)).reverse)[j]? = some (nm, turn n dj) := by
            rw [List.getElem?_reverse (by rw [List.length_map]; omega), List.getElem?_map, List.length_map, le, hdj]; rfl
          have rnd : (((l.map fun p => (p.1, turn n p.2)).reverse).map (·.1)).Nodup := by
            rw [List.map_reverse, List.map_map]
            exact (List.reverse_perm _).nodup_iff.mpr hkn.1
          have hvj : valV es (Sum.inr nm : Key) = some vj := valV_at (by rw [ekeys]; exact inr_nd hkn.1) hkv
          have hrj' := rep_ex e (rep_ex e3 hrj)
          refine ⟨_, rfl, _, rfl, a, vj, rfl, .inl ⟨es, Sum.inr nm, .inl (e _ _ ha3), rfl, hvj.symm⟩, vj, _, dj, rfl, hrj', hkn.2 _ (List.mem_of_getElem? hdj), fun H4 v4 e4 hr4 => ?_⟩
          have nv : valV es' (Sum.inr nm : Key) = none := vV_no (by rw [pair_keys pes, List.map_take]; exact inr_not (not_take rnd (by rw [List.getElem?_map, hrev]; rfl)))
          refine ⟨_, rfl, _, rfl, a1, _, rfl, .inl ⟨es', Sum.inr nm, e4 _ _ h1', rfl, ?_, rfl⟩, es' ++ [(Sum.inr nm, v4)], _, rfl, Ex.mut (e.trans e4) h1, by rw [upd_ne np1]; exact e4 _ _ hpH, by rw [upd_same, putK_new _ nv], ?_⟩
          · rw [← pair_len pes, List.length_take]; exact Evl.sz_lt (by omega)
          · rw [take_snoc hrev]
            exact pair_snoc (pair_imp pes fun a b h => ⟨h.1, rep_upd (e4 _ _ h1') (fun _ z => nomatch z) (fun b z => z.2) (rep_ex e4 h.2)⟩) ⟨rfl, rep_upd (e4 _ _ h1') (fun _ z => nomatch z) (fun b z => z.2) (rep_S (fun b hb => ⟨Evl.fresh_back e hb, fun z => by rw [z, h1'] at hb; cases hb⟩) hr4)⟩
        · obtain ⟨es', o2, rfl, e, hpH, h1', pes⟩ := pv
          rw [List.length_map, ← le, List.take_of_length_le (by rw [List.length_reverse, List.length_map]; exact Nat.le_refl _)] at pes
          exact Evl.s_ret (Evl.ev_var rfl) fun H7 e7 => k H7 _ (e13.trans (e.trans e7)) (rep_ex e7 ⟨a1, es', rfl, Evl.fresh_back e13 h1, h1', by rw [List.length_reverse, List.length_map]; exact l5, pair_imp pes fun x en h => ⟨h.1, rep_S (fun b hb => ⟨Evl.fresh_back e13 hb.1, hb.2⟩) h.2⟩⟩)
      have c3 : ∀ l, d ≠ .dic l := fun l e => c3 ⟨l, e⟩
      refine Evl.q_when (b := false) (Evl.et_B (ev_kind false (Evl.ev_var rfl) hv2 (skip3 c3))) (fun h => nomatch h) fun _ H3 e3 => Evl.s_ret (Evl.ev_var rfl) fun H4 e4 => ?_
      refine k H4 v (e12.trans (e3.trans e4)) ?_
      cases d with
      | lst l => exact absurd rfl (c1 l)
      | tup l => exact hkn.elim
      | dic l => exact absurd rfl (c3 l)
      | non => exact hv
      | bl b => exact hv
      | int i => exact hv
      | str s => exact hv
end
end Pk

namespace Pk
open PySem PySem.Spec PyProof.Rows L2 Ssb
open Evl (Ex Ev EvT EvL EvA EvU)
theorem kt {a b : String} {r : Bool} (h : kitB a b = some r) : kitB a b = some r := h
section
variable {P : Program} {w : World} {K : PySem.W.Frag} {mg : Str → Option Value} {base : Heap} {C_Shape : Addr}
def spSame (n : Nat) : Sp := fun vs H Q _ => ∃ (v1 v2 : V) (P1 P2 : Addr → Prop) (d1 d2 : D), vs = [v1, v2] ∧ Rep H n P1 d1 v1 ∧ Rep H n P2 d2 v2 ∧ (∀ b, P1 b → ¬ P2 b) ∧ sameD n d1 d2 ∧ ∀ H', Ex H H' → Q (.bl true) H'
theorem ok__law_same (T : Txt K mg C_Shape) (R : Prg K mg C_Shape) : ∀ n, ∃ f fd, Fn P w K mg base "_law_same" (n + 1) ["_law_actual", "_law_expected"] (spSame n) f fd
  | 0 => by
    obtain ⟨f, fd, at_, F, kp⟩ := R._law_same
    refine ⟨f, fd, F.ok sc__law_same (fun vs H Q E h => ?_) (fun cdv A outer s H vs Q E hr h => ?_), at_, kp, F.binds (fun _ _ _ _ _ _ us hl => match us, hl with | [_, _], _ => rfl)⟩
    · obtain ⟨v, v2, P, P2, d, d2, rfl, _⟩ := h; rfl
    · obtain ⟨v, v2, P, P2, d, d2, rfl, h, _⟩ := h; exact h.elim
  | n + 1 => by
    obtain ⟨_, _, G__law_same⟩ := ok__law_same T R n
    obtain ⟨f, fd, at_, F, kp⟩ := R._law_same
    refine ⟨f, fd, F.ok sc__law_same (fun vs H Q E h => ?_) (fun cdv A outer s H vs Q E hr h => ?_), at_, kp, F.binds (fun _ _ _ _ _ _ us hl => match us, hl with | [_, _], _ => rfl)⟩
    · obtain ⟨v, v2, P, P2, d, d2, rfl, _⟩ := h; rfl
    · obtain ⟨v, v2, PP, P2, d1, d2, rfl, hv, hv2, dis, sm, k⟩ := h
      refine ⟨_, (pss_cons (ps_if (pt_cmpR op_isN (pv 1) pe_non (nomark _)) pss_never pss_nil)
  (pss_cons (ps_if (pt_val (pe_callB (r := rIsi K) call_isi (by rfl) T.isinstance (by decide +kernel) (pa_cons (pv 1) (pa_cons (pe_bltn (v := .ty "bool") (by rfl) T.bool boot_bool rfl) pa_nil)))) (pss_one (ps_ret (pe_and (pe_callB (r := rIsi K) call_isi (by rfl) T.isinstance (by decide +kernel) (pa_cons (pv 0) (pa_cons (pe_bltn (v := .ty "bool") (by rfl) T.bool boot_bool rfl) pa_nil))) (pe_one (pe_cmpR op_eq (pv 0) (pv 1) (nomark _)))))) pss_nil)
  (pss_cons (ps_if (pt_val (pe_callB (r := rIsi K) call_isi (by rfl) T.isinstance (by decide +kernel) (pa_cons (pv 1) (pa_cons (pe_bltn (v := .ty "int") (by rfl) T.int boot_int rfl) pa_nil)))) (pss_one (ps_ret (pe_and (pe_callB (r := rIsi K) call_isi (by rfl) T.isinstance (by decide +kernel) (pa_cons (pv 0) (pa_cons (pe_bltn (v := .ty "int") (by rfl) T.int boot_int rfl) pa_nil))) (pe_and (pe_not (pe_callB (r := rIsi K) call_isi (by rfl) T.isinstance (by decide +kernel) (pa_cons (pv 0) (pa_cons (pe_bltn (v := .ty "bool") (by rfl) T.bool boot_bool rfl) pa_nil)))) (pe_one (pe_cmpR op_eq (pv 0) (pv 1) (nomark _))))))) pss_nil)
  (pss_cons (ps_if (pt_val (pe_callB (r := rIsi K) call_isi (by rfl) T.isinstance (by decide +kernel) (pa_cons (pv 1) (pa_cons (pe_bltn (v := .ty "str") (by rfl) T.str boot_str rfl) pa_nil)))) (pss_one (ps_ret (pe_and (pe_callB (r := rIsi K) call_isi (by rfl) T.isinstance (by decide +kernel) (pa_cons (pv 0) (pa_cons (pe_bltn (v := .ty "str") (by rfl) T.str boot_str rfl) pa_nil))) (pe_one (pe_cmpR op_eq (pv 0) (pv 1) (nomark _)))))) pss_nil)
  (pss_cons (ps_if (pt_val (pe_callB (r := rIsi K) call_isi (by rfl) T.isinstance (by decide +kernel) (pa_cons (pv 1) (pa_cons (pe_bltn (v := .ty "dict") (by rfl) T.dict boot_dict rfl) pa_nil)))) (pss_cons (ps_if (PW.pt (pw_or (pt_not (pt_val (pe_callB (r := rIsi K) call_isi (by rfl) T.isinstance (by decide +kernel) (pa_cons (pv 0) (pa_cons (pe_bltn (v := .ty "dict") (by rfl) T.dict boot_dict rfl) pa_nil))))) (pw_or1 (pt_cmpR op_ne (pe_callB call_lenD (by rfl) T.len (by decide +kernel) (pa_cons (pv 0) pa_nil)) (pe_callB call_lenD (by rfl) T.len (by decide +kernel) (pa_cons (pv 1) pa_nil)) (nomark _))))) pss_never pss_nil)
  (pss_cons (ps_lock (ps_for PassesOwn.never rfl (pi_keys (pv 1)) (pg_name (i := 2) sc__law_same.nd rfl (Or.inl rfl))
    (pss_one (ps_if (PW.pt (pw_or (pt_cmp (pc_dnotin (hu_of hr) (pv 2) (pv 0))) (pw_or1 (pt_not (pt_val (pcl G__law_same hr (pa_cons (pe_dget (hu_of hr) (pv 0) (pv 2) (fun _ _ => rfl)) (pa_cons (pe_dget (hu_of hr) (pv 1) (pv 2) (fun _ _ => rfl)) pa_nil)))))))) pss_never pss_nil))))
  (pss_one (ps_ret pe_bl)))) pss_nil)
  (pss_cons (ps_if (PW.pt (pw_and (pt_val (pe_callB (r := rIsi K) call_isi (by rfl) T.isinstance (by decide +kernel) (pa_cons (pv 1) (pa_cons (pe_bltn (v := .ty "tuple") (by rfl) T.tuple boot_tuple rfl) pa_nil)))) (pw_and1 (pt_not pt_unseen)))) pss_never pss_nil)
  (pss_cons (ps_if (PW.pt (pw_and (pt_val (pe_callB (r := rIsi K) call_isi (by rfl) T.isinstance (by decide +kernel) (pa_cons (pv 1) (pa_cons (pe_bltn (v := .ty "list") (by rfl) T.list boot_list rfl) pa_nil)))) (pw_and1 (pt_not (pt_val (pe_callB (r := rIsi K) call_isi (by rfl) T.isinstance (by decide +kernel) (pa_cons (pv 0) (pa_cons (pe_bltn (v := .ty "list") (by rfl) T.list boot_list rfl) pa_nil)))))))) pss_never pss_nil)
  (pss_cons (ps_if (pt_cmpR op_ne (pe_callB (r := rLenA K) call_len (by rfl) T.len (by decide +kernel) (pa_cons (pv 0) pa_nil)) (pe_callB (r := rLenA K) call_len (by rfl) T.len (by decide +kernel) (pa_cons (pv 1) pa_nil)) (nomark _)) pss_never pss_nil)
  (pss_cons (ps_for PassesOwn.never rfl (pi_range1 (by rfl) T.range (pa_cons (pe_callB (r := rLenA K) call_len (by rfl) T.len (by decide +kernel) (pa_cons (pv 1) pa_nil)) pa_nil)) (pg_name (i := 3) sc__law_same.nd rfl (Or.inl rfl))
    (pss_one (ps_if (pt_not (pt_val (pcl G__law_same hr (pa_cons (pe_ix (r := rIxL K) ix_list (pv 0) (pv 3) (fun _ _ => rfl)) (pa_cons (pe_ix (r := rIxL K) ix_list (pv 1) (pv 3) (fun _ _ => rfl)) pa_nil))))) pss_never pss_nil)))
  (pss_one (ps_ret pe_bl))))))))))), ?_⟩
      have no : v2 ≠ .non := fun e => by
        subst e
        cases d2 with
        | non => exact sm.elim
        | bl b => cases (show V.non = .bl b from hv2)
        | int i => cases (show V.non = .int i from hv2)
        | str s => cases (show V.non = .str s from hv2)
        | lst l => obtain ⟨a, xs, e, _⟩ := hv2; cases e
        | tup l => exact sm.elim
        | dic l => obtain ⟨a, xs, e, _⟩ := hv2; cases e
      refine Evl.q_when (b := false) (Evl.et_is (Evl.et_test (Evl.ev_op (Evl.ev_var rfl) Evl.ev_c rv_isN)) (decide_eq_false no)) (fun h => nomatch h) fun _ H1 e1 => ?_
      have hw1 := rep_ex e1 hv
      have hw2 := rep_ex e1 hv2
      cases d2 with
      | non => exact sm.elim
      | tup l => exact sm.elim
      | bl b =>
        have ed : d1 = .bl b := sm
        subst ed
        have e : v = .bl b := hv
        subst e
        have e : v2 = .bl b := hv2
        subst e
        refine Evl.q_when (b := true) (Evl.et_B (ev_kind (d := .bl b) true (Evl.ev_var rfl) hw2 (show kitB "bool" "bool" = some true by decide +kernel))) (fun _ H2 e2 => ?_) (fun h => nomatch h)
        exact Evl.s_ret (Evl.ev_is (Evl.ev_andV (a := true) (b := true) (ev_kind (d := .bl b) true (Evl.ev_var rfl) (rep_ex e2 hw1) (show kitB "bool" "bool" = some true by decide +kernel)) fun _ => Evl.ev_is (Evl.ev_op (Evl.ev_var rfl) (Evl.ev_var rfl) (Evl.rv_eq rfl)) (by simp)) rfl) fun H3 e3 => k H3 (e1.trans (e2.trans e3))
      | int i =>
        have ed : d1 = .int i := sm
        subst ed
        have e : v = .int i := hv
        subst e
        have e : v2 = .int i := hv2
        subst e
        refine Evl.q_when (b := false) (Evl.et_B (ev_kind (d := .int i) false (Evl.ev_var rfl) hw2 (show kitB "int" "bool" = some false by decide +kernel))) (fun h => nomatch h) fun _ H2 e2 => ?_
        refine Evl.q_when (b := true) (Evl.et_B (ev_kind (d := .int i) true (Evl.ev_var rfl) (rep_ex e2 hw2) (show kitB "int" "int" = some true by decide +kernel))) (fun _ H3 e3 => ?_) (fun h => nomatch h)
        have hx := rep_ex (e2.trans e3) hw1
        exact Evl.s_ret (Evl.ev_is (Evl.ev_andV (a := true) (b := true) (ev_kind (d := .int i) true (Evl.ev_var rfl) hx (show kitB "int" "int" = some true by decide +kernel)) fun _ => Evl.ev_is (Evl.ev_andV (a := true) (b := true) (Evl.ev_notV (a := false) (ev_kind (d := .int i) false (Evl.ev_var rfl) hx (show kitB "int" "bool" = some false by decide +kernel))) fun _ => Evl.ev_is (Evl.ev_op (Evl.ev_var rfl) (Evl.ev_var rfl) (Evl.rv_eq rfl)) (by simp)) rfl) rfl) fun H4 e4 => k H4 (e1.trans ((e2.trans e3).trans e4))
      | str i =>
        have ed : d1 = .str i := sm
        subst ed
        have e : v = .str i := hv
        subst e
        have e : v2 = .str i := hv2
        subst e
        refine Evl.q_when (b := false) (Evl.et_B (ev_kind (d := .str i) false (Evl.ev_var rfl) hw2 (show kitB "str" "bool" = some false by decide +kernel))) (fun h => nomatch h) fun _ H2 e2 => ?_
        refine Evl.q_when (b := false) (Evl.et_B (ev_kind (d := .str i) false (Evl.ev_var rfl) (rep_ex e2 hw2) (show kitB "str" "int" = some false by decide +kernel))) (fun h => nomatch h) fun _ H3 e3 => ?_
        have e23 := e2.trans e3
        refine Evl.q_when (b := true) (Evl.et_B (ev_kind (d := .str i) true (Evl.ev_var rfl) (rep_ex e23 hw2) (show kitB "str" "str" = some true by decide +kernel))) (fun _ H4 e4 => ?_) (fun h => nomatch h)
        exact Evl.s_ret (Evl.ev_is (Evl.ev_andV (a := true) (b := true) (ev_kind (d := .str i) true (Evl.ev_var rfl) (rep_ex (e23.trans e4) hw1) (show kitB "str" "str" = some true by decide +kernel)) fun _ => Evl.ev_is (Evl.ev_op (Evl.ev_var rfl) (Evl.ev_var rfl) (Evl.rv_eq rfl)) (by simp)) rfl) fun H5 e5 => k H5 (e1.trans ((e23.trans e4).trans e5))
      | lst l2 =>
        obtain ⟨l1, rfl, prs⟩ := sm
        refine Evl.q_when (b := false) (Evl.et_B (ev_kind (d := .lst l2) false (Evl.ev_var rfl) hw2 (show kitB "list" "bool" = some false by decide +kernel))) (fun h => nomatch h) fun _ H2 e2 => ?_
        refine Evl.q_when (b := false) (Evl.et_B (ev_kind (d := .lst l2) false (Evl.ev_var rfl) (rep_ex e2 hw2) (show kitB "list" "int" = some false by decide +kernel))) (fun h => nomatch h) fun _ H3 e3 => ?_
        have e23 := e2.trans e3
        refine Evl.q_when (b := false) (Evl.et_B (ev_kind (d := .lst l2) false (Evl.ev_var rfl) (rep_ex e23 hw2) (show kitB "list" "str" = some false by decide +kernel))) (fun h => nomatch h) fun _ H4 e4 => ?_
        have e24 := e23.trans e4
        refine Evl.q_when (b := false) (Evl.et_B (ev_kind (d := .lst l2) false (Evl.ev_var rfl) (rep_ex e24 hw2) (show kitB "list" "dict" = some false by decide +kernel))) (fun h => nomatch h) fun _ H5 e5 => ?_
        have e25 := e24.trans e5
        refine Evl.q_when (b := false) (Evl.et_and (a := false) (b := false) (Evl.et_B (ev_kind (d := .lst l2) false (Evl.ev_var rfl) (rep_ex e25 hw2) (show kitB "list" "tuple" = some false by decide +kernel))) (fun h => nomatch h)) (fun h => nomatch h) fun _ H6 e6 => ?_
        have e26 := e25.trans e6
        refine Evl.q_when (b := false) (Evl.et_and (a := true) (b := false) (Evl.et_B (ev_kind (d := .lst l2) true (Evl.ev_var rfl) (rep_ex e26 hw2) (show kitB "list" "list" = some true by decide +kernel))) (fun _ => Evl.et_not (a := true) (Evl.et_B (ev_kind (d := .lst l1) true (Evl.ev_var rfl) (rep_ex e26 hw1) (show kitB "list" "list" = some true by decide +kernel))))) (fun h => nomatch h) fun _ H7 e7 => ?_
        have e17 := e1.trans (e26.trans e7)
        obtain ⟨a, xs, rfl, _, ha, l5, pr1⟩ := rep_ex e17 hv
        obtain ⟨b, ys, rfl, _, hb, l6, pr2⟩ := rep_ex e17 hv2
        have lx := pair_len pr1
        have ly := pair_len pr2
        have ll := pair_len prs
        refine Evl.q_when (b := false) (Evl.et_is (Evl.et_test (Evl.ev_op (ev_lenL (Evl.ev_var rfl) (.inl (Evl.sq_of ha))) (ev_lenL (Evl.ev_var rfl) (.inl (Evl.sq_of hb))) (Evl.rv_ne rfl))) (by rw [show xs.length = ys.length by omega]; simp)) (fun h => nomatch h) fun _ H8 e8 => ?_
        refine Evl.q_forR1 (n := (ys.length : Int)) (Evl.ea_cons (ev_lenL (Evl.ev_var rfl) (.inl (Evl.sq_of (e8 _ _ hb)))) Evl.ea_nil) ⟨by omega, by omega⟩ (fun i σ' H' => ∃ o3, σ' = [some (.ref a), some (.ref b), none, o3] ∧ Ex H7 H') (fun H9 e9 => ⟨_, rfl, e8.trans e9⟩) (fun i σ' H' hi pv => ?_) fun σ' H' pv => ?_
        · obtain ⟨o3, rfl, e⟩ := pv
          obtain ⟨x2, hx2⟩ : ∃ x, ys[i]? = some x := ⟨_, List.getElem?_eq_getElem (by omega)⟩
          obtain ⟨x1, hx1⟩ : ∃ x, xs[i]? = some x := ⟨_, List.getElem?_eq_getElem (by omega)⟩
          obtain ⟨y1, hy1, hr1⟩ := pair_back pr1 hx1
          obtain ⟨y2, hy2, hr2⟩ := pair_back pr2 hx2
          obtain ⟨y2', hy2', hs⟩ := pair_at prs hy1
          rw [hy2] at hy2'
          cases hy2'
          exact Evl.s_when (b := false) (Evl.et_not (a := true) (Evl.et_B (ev_fn (Evl.ea_cons (Evl.ev_op (Evl.ev_var rfl) (Evl.ev_var rfl) (Evl.rv_ixL (Evl.sq_of (e _ _ ha)) (atI_nat hx1))) (Evl.ea_cons (Evl.ev_op (Evl.ev_var rfl) (Evl.ev_var rfl) (Evl.rv_ixL (Evl.sq_of (e _ _ hb)) (atI_nat hx2))) Evl.ea_nil)) fun H9 e9 Q' q' => ⟨x1, x2, PP, P2, y1, y2, rfl, rep_ex (e.trans e9) hr1, rep_ex (e.trans e9) hr2, dis, hs, q'⟩))) (fun h => nomatch h) fun _ H9 e9 => ⟨_, rfl, e.trans e9⟩
        · obtain ⟨o3, rfl, e⟩ := pv
          exact Evl.s_ret Evl.ev_c fun H9 e9 => k H9 (e17.trans (e.trans e9))
      | dic l2 =>
        obtain ⟨l1, rfl, ll, nd, hs⟩ := sm
        refine Evl.q_when (b := false) (Evl.et_B (ev_kind (d := .dic l2) false (Evl.ev_var rfl) hw2 (show kitB "dict" "bool" = some false by decide +kernel))) (fun h => nomatch h) fun _ H2 e2 => ?_
        refine Evl.q_when (b := false) (Evl.et_B (ev_kind (d := .dic l2) false (Evl.ev_var rfl) (rep_ex e2 hw2) (show kitB "dict" "int" = some false by decide +kernel))) (fun h => nomatch h) fun _ H3 e3 => ?_
        have e23 := e2.trans e3
        refine Evl.q_when (b := false) (Evl.et_B (ev_kind (d := .dic l2) false (Evl.ev_var rfl) (rep_ex e23 hw2) (show kitB "dict" "str" = some false by decide +kernel))) (fun h => nomatch h) fun _ H4 e4 => ?_
        have e24 := e23.trans e4
        refine Evl.q_when (b := true) (Evl.et_B (ev_kind (d := .dic l2) true (Evl.ev_var rfl) (rep_ex e24 hw2) (show kitB "dict" "dict" = some true by decide +kernel))) (fun _ H5 e5 => ?_) (fun h => nomatch h)
        have e15 := e1.trans (e24.trans e5)
        obtain ⟨a, es1, rfl, Pa, ha, l5, pr1⟩ := id (rep_ex e15 hv)
        obtain ⟨b, es2, rfl, Pb, hb, l6, pr2⟩ := id (rep_ex e15 hv2)
        have le1 := pair_len pr1
        have le2 := pair_len pr2
        refine Evl.q_when (b := false) (Evl.et_or (a := false) (b := false) (Evl.et_not (a := true) (Evl.et_B (ev_kind (d := .dic l1) true (Evl.ev_var rfl) (rep_ex e15 hv) (show kitB "dict" "dict" = some true by decide +kernel)))) fun _ => Evl.et_is (Evl.et_test (Evl.ev_op (ev_lenK (Evl.ev_var rfl) ha) (ev_lenK (Evl.ev_var rfl) hb) (Evl.rv_ne rfl))) (by rw [show es1.length = es2.length by omega]; simp)) (fun h => nomatch h) fun _ H6 e6 => ?_
        have ha6 := e6 _ _ ha
        have hb6 := e6 _ _ hb
        have nab : a ≠ b := fun e => dis a Pa (e ▸ Pb)
        refine for_lock (J := fun od => Itk b od es2) (xs := fun _ => none) hb6 (fun od R r => ⟨_, rfl, b, od, rfl, .inl ⟨es2, upd_same, r⟩⟩) (fun od => walk_keys) (fun od j σ' H' => ∃ o2, σ' = [some (.ref a), some (.ref b), o2, none] ∧ Ex (upd H6 b (.frz od (.dK es2))) H') (fun od => ⟨_, rfl, Ex.refl _⟩) (fun od j σ' H' _ ⟨_, _, e⟩ => e _ _ upd_same) (fun od j x σ' H0 H' hlt pv y => ?_) fun od σ' H' pv => ?_
        · obtain ⟨o2, rfl, e⟩ := pv
          obtain ⟨rfl, kk, vj, hkv, rfl⟩ := y
          obtain ⟨⟨nm, dj⟩, hdj, hk, hrj⟩ := pair_back pr2 hkv
          have hk : kk = Sum.inr nm := hk
          subst hk
          have hvj : valV es2 (Sum.inr nm : Key) = some vj := valV_at (by rw [pair_keys pr2]; exact inr_nd nd) hkv
          obtain ⟨x, hx, hsx⟩ := hs _ (List.mem_of_getElem? hdj)
          obtain ⟨vx, hvx, hrx⟩ := rep_entry pr1 hx
          have haH : H' a = some (.dK es1) := e _ _ (by rw [upd_ne nab]; exact ha6)
          have hbH : H' b = some (.frz od (.dK es2)) := e _ _ upd_same
          have hrj' := rep_in hb6 e (rep_ex e6 hrj)
          have hrx' : Rep H' n (fun z => PP z ∧ z ≠ a) x vx := rep_ex e (rep_lock hb6 (fun z hz ez => dis z hz.1 (ez ▸ Pb)) (rep_ex e6 hrx))
          refine Evl.s_when (b := false) (Evl.et_or (a := false) (b := false) (fun H7 e7 Q' q' => ⟨_, rfl, _, rfl, a, some vx, rfl, .inl ⟨es1, Sum.inr nm, .inl (e7 _ _ haH), rfl, hvx.symm⟩, _, rfl, q' H7 (Ex.refl _)⟩) fun _ => Evl.et_not (a := true) (Evl.et_B (ev_fn (Evl.ea_cons (ev_get (Evl.ev_var rfl) (Evl.ev_var rfl) (.inl haH) hvx) (Evl.ea_cons (ev_get (Evl.ev_var rfl) (Evl.ev_var rfl) (.inr ⟨od, hbH⟩) hvj) Evl.ea_nil)) fun H7 e7 Q' q' => ⟨vx, vj, _, _, x, dj, rfl, rep_ex e7 hrx', rep_ex e7 hrj', fun z h1 h2 => dis z h1.1 h2.1, hsx, q'⟩))) (fun h => nomatch h) fun _ H7 e7 => ⟨_, rfl, e.trans e7⟩
        · obtain ⟨o2, rfl, e⟩ := pv
          exact k _ (e15.trans (e6.trans (unlock hb6 e)))
end
end Pk

namespace Pk
open PySem PySem.Spec PyProof.Rows L2 Ssb
open Evl (Ex Ev EvT EvL EvA EvU)
theorem tr_upd {R R' : (Addr → Prop) → D → V → Prop} {S S' : Addr → Prop} {a : Addr} {ix : Addr → Nat} {l : List D} {xs : List V} {j : Nat} {d' : D} (t : Tr R S a ix l xs) (other : ∀ i d x, i ≠ j → R (fun b => (S b ∧ b ≠ a) ∧ ix b = i) d x → R' (fun b => (S' b ∧ b ≠ a) ∧ ix b = i) d x)
    (new : ∀ x, xs[j]? = some x → R' (fun b => (S' b ∧ b ≠ a) ∧ ix b = j) d' x) : Tr R' S' a ix (l.set j d') xs := by
  refine ⟨by rw [List.length_set]; exact t.1, fun i d x h1 h2 => ?_⟩
  by_cases e : i = j
  · subst e
    rw [List.getElem?_set] at h1
    rw [if_pos rfl] at h1
    by_cases c : i < l.length
    · rw [if_pos c] at h1; cases h1; exact new x h2
    · rw [if_neg c] at h1; cases h1
  · rw [List.getElem?_set, if_neg (fun z => e z.symm)] at h1
    exact other i d x e (t.2 i d x h1 h2)
theorem pair_set {α β : Type} {F : α → β → Prop} {a : α} {b : β} : ∀ {l : List α} {m : List β} {t : Nat}, Paired F l m → F a b → Paired F (l.set t a) (m.set t b)
  | _, _, _, .nil, _ => .nil
  | _ :: _, _ :: _, 0, .cons _ t, h => .cons h t
  | _ :: _, _ :: _, n + 1, .cons h0 t, h => .cons h0 (pair_set (t := n) t h)
theorem pair_set1 {α β : Type} {F : α → β → Prop} {a : α} {b : β} : ∀ {l : List α} {m : List β} {t : Nat}, Paired F l m → m[t]? = some b → F a b → Paired F (l.set t a) m
  | _, _, _, .nil, _, _ => .nil
  | _ :: _, _ :: _, 0, .cons _ t, hb, h => by cases hb; exact .cons h t
  | _ :: _, _ :: _, n + 1, .cons h0 t, hb, h => .cons h0 (pair_set1 (t := n) t hb h)
theorem nodup_set : ∀ {l : List Int} {t : Nat} {x : Int}, l.Nodup → x ∉ l → (l.set t x).Nodup
  | [], _, _, _, _ => List.nodup_nil
  | a :: l, 0, x, nd, h => by
    rw [List.nodup_cons] at nd
    exact List.nodup_cons.mpr ⟨fun z => h (List.mem_cons_of_mem _ z), nd.2⟩
  | a :: l, t + 1, x, nd, h => by
    rw [List.nodup_cons] at nd
    refine List.nodup_cons.mpr ⟨fun z => ?_, nodup_set nd.2 fun z => h (List.mem_cons_of_mem _ z)⟩
    rcases List.mem_or_eq_of_mem_set z with z | z
    · exact nd.1 z
    · exact h (by rw [z]; exact List.mem_cons_self)
theorem putId {v1 v2 v3 v : V} : putK [((Sum.inr "id" : Key), v1), (Sum.inr "fields", v2), (Sum.inr "lists", v3)] (Sum.inr "id") v = [((Sum.inr "id" : Key), v), (Sum.inr "fields", v2), (Sum.inr "lists", v3)] := by
  have h1 : ¬ ((Sum.inr "fields" : Key) = (Sum.inr "id" : Key)) := by intro e; exact nIF (Sum.inr.inj e).symm
  have h2 : ¬ ((Sum.inr "lists" : Key) = (Sum.inr "id" : Key)) := by intro e; exact nIL (Sum.inr.inj e).symm
  unfold putK
  rw [if_pos (by rw [List.any_cons, decide_eq_true rfl]; rfl)]
  simp only [List.map_cons, List.map_nil]
  rw [if_pos trivial, if_neg h1, if_neg h2]
theorem lkV3 {v1 v2 v3 : V} : valV [((Sum.inr "id" : Key), v1), (Sum.inr "fields", v2), (Sum.inr "lists", v3)] (Sum.inr "lists") = some v3 := by
  rw [vV_cons, if_neg (fun e => nIL (Sum.inr.inj e)), vV_cons, if_neg (fun e => nFL (Sum.inr.inj e)), vV_cons, if_pos rfl]
theorem rows_len {m : Nat} {f : Fl} {i : List (Str × Fl)} {rs : List D} (h : gR m f i (.lst rs)) : rs.length ≤ 6 := by
  cases m with
  | zero => exact h.elim
  | succ m => obtain ⟨_, _, e, _, h6, _⟩ := h; cases e; exact h6
section
variable {P : Program} {w : World} {K : PySem.W.Frag} {mg : Str → Option Value} {base : Heap} {C_Shape : Addr}
def spEd (m : Nat) : Sp := fun vs H Q _ => ∃ (v : V) (num : Int) (n : Nat) (S : Addr → Prop) (ls : List (Str × D)) (s : Sh), vs = [v, .int num] ∧ RepT H n S (.dic ls) v ∧ gLs m ls s ∧ (s.map (·.1)).Nodup ∧ (∀ p ∈ s, p.2.2.length ≤ 1) ∧ 0 ≤ num ∧ num ≤ 1000000 ∧
  ∀ H' ls', (∀ b o, ¬ S b → H b = some o → H' b = some o) → RepT H' n S (.dic ls') v → gLs m ls' s → Q .non H'
def spEdV : Nat → Sp
  | 0 => fun _ _ _ _ => False
  | m + 1 => spEd m
theorem ok__law_edges0 (T : Txt K mg C_Shape) (R : Prg K mg C_Shape) : ∃ f fd, Fn P w K mg base "_law_edges" 1 ["_law_lists_here", "_law_number"] (spEdV 0) f fd := by
  obtain ⟨f, fd, at_, F, kp⟩ := R._law_edges
  exact ⟨f, fd, F.ok sc__law_edges (fun vs H Q E h => h.elim) (fun cdv A outer s H vs Q E hr h => h.elim), at_, kp, F.binds (fun _ _ _ _ _ _ us hl => match us, hl with | [_, _], _ => rfl)⟩
theorem ok__law_edges (T : Txt K mg C_Shape) (R : Prg K mg C_Shape) {m lv : Nat} (G0 : ∃ f fd, Fn P w K mg base "_law_edges" lv ["_law_lists_here", "_law_number"] (spEdV m) f fd) : ∃ f fd, Fn P w K mg base "_law_edges" (lv + 1) ["_law_lists_here", "_law_number"] (spEdV (m + 1)) f fd := by
  obtain ⟨_, _, G__law_edges⟩ := G0
  obtain ⟨f, fd, at_, F, kp⟩ := R._law_edges
  refine ⟨f, fd, F.ok sc__law_edges (fun vs H Q E h => ?_) (fun cdv A outer s H vs Q E hr h => ?_), at_, kp, F.binds (fun _ _ _ _ _ _ us hl => match us, hl with | [_, _], _ => rfl)⟩
  · obtain ⟨v, num, n, S, ls, s, rfl, _⟩ := h; rfl
  · obtain ⟨v, num, n, S, ls, sh, rfl, hv, hg, snd, s1, n0, n1, k⟩ := h
    cases n with
    | zero => exact hv.elim
    | succ n =>
    obtain ⟨d, es, ix, rfl, Sd, hd, l5, ek, tr⟩ := hv
    have lnames := pair_names hg
    have le : es.length = ls.length := by have := tr.1; rw [List.length_map, List.length_map] at this; exact this.symm
    refine ⟨_, (pss_one (ps_lock (ps_for PassesOwn.never rfl (pi_keys (pv 0)) (pg_name (i := 2) sc__law_edges.nd rfl (Or.inl rfl))
    (pss_cons (ps_set (i := 3) sc__law_edges.nd rfl (Or.inl rfl) (pe_dget (hu_of hr) (pv 0) (pv 2) (fun _ _ => rfl)))
  (pss_one (ps_if (show PT _ _ (tTruA K _) from pt_truth (pv 3) (by intro _; rfl)) (pss_cons (ps_set (i := 4) sc__law_edges.nd rfl (Or.inl rfl) (pe_ix (r := rIxL K) ix_list (pv 3) (pe_un un_neg pe_int) (fun _ _ => rfl)))
  (Evl.pss_cut (ps_if (pt_cmpR (r := rIn K true) op_notIn_seq (pv 1) (pe_lc (own := [("_law_other", 5)]) rfl sc__law_edges.nd (show PI _ _ _ (iList K _) from pi_list (pv 3)) (blkOk_by (own := [("_law_other", 5)]) (N := ["_law_lists_here", "_law_number", "_law_name", "_law_rows_here", "_law_row", "_law_other"]) (sc := defScope s__law_edges) (by decide +kernel)) (fun _ _ _ _ _ => (pg_name (i := 5) sc__law_edges.nd rfl (Or.inl rfl))) (fun _ _ _ _ _ => pts_nil) (fun _ _ _ _ _ => (pe_dget (hu_of hr) (pv 5) pe_str (fun _ _ => rfl)))) (by rfl)) (pss_one (ps_dput (hu_of hr) (pv 4) pe_str (pv 1) rfl)) pss_nil)
  (pss_one (ps_expr (pcl G__law_edges hr (pa_cons (pe_dget (hu_of hr) (pv 4) pe_str (fun _ _ => rfl)) (pa_cons (pe_op op_sub pe_int (pv 1)) pa_nil))))))) pss_nil)))))), ?_⟩
    refine for_lock (J := fun od => Itk d od es) (xs := fun _ => none) hd (fun od R r => ⟨_, rfl, d, od, rfl, .inl ⟨es, upd_same, r⟩⟩) (fun od => walk_keys) (fun od j σ' H' => ∃ (ls' : List (Str × D)) (o2 o3 o4 : Option V), σ' = [some (.ref d), some (.int num), o2, o3, o4, none] ∧ (∀ b o, ¬ S b → (upd H d (.frz od (.dK es))) b = some o → H' b = some o) ∧ H' d = some (.frz od (.dK es)) ∧ Tr (fun S d v => RepT H' n S d v) S d ix (ls'.map (·.2)) (es.map (·.2)) ∧ gLs m ls' sh)
      (fun od => ⟨ls, _, _, _, rfl, fun b o _ h => h, upd_same, tr_imp (fun i d' x r => rt_upd (fun b hb => hb.1.2) r) tr, hg⟩) (fun od j σ' H' _ ⟨_, _, _, _, _, _, h, _⟩ => h) (fun od j x σ' H0 H' hlt pv y => ?_) fun od σ' H' pv => ?_
    · obtain ⟨ls', o2, o3, o4, rfl, fr, hdf, tr1, hg1⟩ := pv
      obtain ⟨rfl, kk, vj, hkv, rfl⟩ := y
      have lnames1 := pair_names hg1
      have ls1 : ls'.length = ls.length := by rw [pair_len hg1, pair_len hg]
      obtain ⟨⟨nm, rd⟩, hrd⟩ : ∃ p, ls'[j]? = some p := ⟨_, List.getElem?_eq_getElem (by omega)⟩
      obtain ⟨⟨nm', f, i⟩, hsj, e2, hgR⟩ := pair_at hg1 hrd
      have e2 : nm = nm' := e2
      subst e2
      have hk : kk = Sum.inr nm := by
        have h1 := congrArg (fun l => l[j]?) ek
        simp only [List.getElem?_map, hkv] at h1
        have h2 : (ls.map (·.1))[j]? = some nm := by rw [lnames, List.getElem?_map, hsj]; rfl
        rw [List.getElem?_map] at h2
        cases hl : ls[j]? with
        | none => rw [hl] at h2; cases h2
        | some p =>
          rw [hl] at h1 h2
          have h2 : p.1 = nm := Option.some.inj h2
          have h1 : kk = Sum.inr p.1 := Option.some.inj h1
          rw [h1, h2]
      subst hk
      have hvj : valV es (Sum.inr nm : Key) = some vj := by
        refine valV_at ?_ hkv
        rw [ek]
        have : ls.map (fun q => (Sum.inr q.1 : Key)) = (ls.map (·.1)).map Sum.inr := by rw [List.map_map]; rfl
        rw [this, lnames]; exact inr_nd snd
      cases m with
      | zero => exact hgR.elim
      | succ m =>
      obtain ⟨rs, ids, rfl, ndi, r6, prs⟩ := hgR
      have hrT : RepT H' n (fun b => (S b ∧ b ≠ d) ∧ ix b = j) (.lst rs) vj := tr1.2 j (.lst rs) vj (by rw [List.getElem?_map, hrd]; rfl) (by rw [List.getElem?_map, hkv]; rfl)
      cases n with
      | zero => exact hrT.elim
      | succ n =>
      obtain ⟨ra, xs, ixr, rfl, Sra, hra, r5, trr⟩ := hrT
      refine Evl.q_asg (ev_get (Evl.ev_var rfl) (Evl.ev_var rfl) (.inr ⟨od, hdf⟩) hvj) fun H1 e1 => ?_
      have hra1 := e1 _ _ hra
      have fr1 : ∀ b o, ¬ S b → (upd H d (.frz od (.dK es))) b = some o → H1 b = some o := fun b o h1 h2 => e1 _ _ (fr b o h1 h2)
      have tr11 : Tr (fun S d v => RepT H1 (n + 1) S d v) S d ix (ls'.map (·.2)) (es.map (·.2)) := tr_imp (fun i d x r => rt_ex e1 r) tr1
      have trr1 : Tr (fun S d v => RepT H1 n S d v) (fun b => (S b ∧ b ≠ d) ∧ ix b = j) ra ixr rs xs := tr_imp (fun i d x r => rt_ex e1 r) trr
      have hdf1 := e1 _ _ hdf
      refine ⟨_, rfl, _, .inl ⟨xs, Evl.sq_of hra1, rfl⟩, ?_⟩
      cases hne : xs.isEmpty with
      | true => exact ⟨ls', _, _, _, rfl, fr1, hdf1, tr11, hg1⟩
      | false =>
      have lrx := trr.1
      have lri := pair_len prs
      have l0 : 0 < xs.length := by
        cases xs with
        | nil => cases hne
        | cons x xs => simp
      obtain ⟨xw, hxw⟩ : ∃ x, xs[xs.length - 1]? = some x := ⟨_, List.getElem?_eq_getElem (by omega)⟩
      obtain ⟨row, hrow⟩ : ∃ x, rs[xs.length - 1]? = some x := ⟨_, List.getElem?_eq_getElem (by omega)⟩
      obtain ⟨idl, hidl, fs, lls, rfl, i0, i1, okf, hgl⟩ := pair_at prs hrow
      have hat : atI xs (-1) = some xw := by
        have e : xs = xs.dropLast ++ [xw] := by
          have hne2 : xs ≠ [] := fun z => by rw [z] at l0; exact absurd l0 (by decide)
          have h := List.dropLast_concat_getLast hne2
          rw [List.getLast_eq_getElem] at h
          have : xs[xs.length - 1] = xw := by
            have h2 := List.getElem?_eq_getElem (l := xs) (i := xs.length - 1) (by omega)
            rw [hxw] at h2
            exact (Option.some.inj h2).symm
          rw [this] at h
          exact h.symm
        rw [e]; exact atI_last _ _
      have hwT := trr1.2 (xs.length - 1) _ xw hrow hxw
      cases n with
      | zero => exact hwT.elim
      | succ n =>
      obtain ⟨wa, wes, ixw, rfl, Swa, hwa, _, wek, wtr⟩ := hwT
      obtain ⟨vf, vl, rfl⟩ : ∃ vf vl, wes = [((Sum.inr "id" : Key), V.int idl), (Sum.inr "fields", vf), (Sum.inr "lists", vl)] := by
        have lw : wes.length = 3 := by have := congrArg List.length wek; rw [List.length_map] at this; exact this
        match wes, lw, wek, wtr with
        | [a, b, c], _, wek, wtr =>
          simp only [List.map_cons, List.map_nil, List.cons.injEq, and_true] at wek
          obtain ⟨a1, a2⟩ := a
          obtain ⟨b1, b2⟩ := b
          obtain ⟨c1, c2⟩ := c
          have := wtr.2 0 (.int idl) a2 rfl rfl
          cases n with
          | zero => exact this.elim
          | succ n =>
          have e : a2 = .int idl := this
          subst e
          obtain ⟨h1, h2, h3⟩ := wek
          have h1 : a1 = (Sum.inr "id" : Key) := h1
          have h2 : b1 = (Sum.inr "fields" : Key) := h2
          have h3 : c1 = (Sum.inr "lists" : Key) := h3
          subst h1; subst h2; subst h3
          exact ⟨b2, c2, rfl⟩
      refine Evl.q_asg (Evl.ev_op (Evl.ev_var rfl) (Evl.ev_un Evl.ev_c Evl.ru_neg) (Evl.rv_ixL (Evl.sq_of hra1) hat)) fun H2 e2 => ?_
      -- what stands after a change at the row only
      have wa_ne : wa ≠ ra := Swa.1.2
      refine Evl.q_cut (M := fun σ' Hx => ∃ idn : Int, σ' = [some (.ref d), some (.int num), some (.str nm), some (.ref ra), some (.ref wa), none] ∧ (∀ b o, b ≠ wa → H2 b = some o → Hx b = some o) ∧ Hx wa = some (.dK [(Sum.inr "id", .int idn), (Sum.inr "fields", vf), (Sum.inr "lists", vl)]) ∧ 0 ≤ idn ∧ idn ≤ 1000000 ∧ (idn = idl ∨ idn ∉ ids)) ?_ ?_
      · refine Evl.s_when (Evl.et_test (Evl.ev_opL (xs := ids.map V.int) (Evl.ev_var rfl) (el_lcM (Evl.ev_var rfl) (Evl.sq_of (e2 _ _ hra1)) (by omega) (by rw [List.length_map]; omega) (fun _ => rfl) fun t x z hx hz H3 e3 => ?_) fun p H3 hp e3 => Evl.rv_niL (Evl.sq_of hp) rfl (flat_ints ids))) (fun hb H3 e3 => ?_) (fun hb H3 e3 => ?_)
        · rw [List.getElem?_map] at hz
          cases hid : ids[t]? with
          | none => rw [hid] at hz; cases hz
          | some jd =>
          rw [hid] at hz
          cases hz
          obtain ⟨row2, hrow2, fs2, ls2, rfl, _⟩ := pair_back prs hid
          have hr0 := rt_rep (trr1.2 t _ x hrow2 hx)
          obtain ⟨ra2, res2, rfl, _, hra2, _, rpr2⟩ := hr0
          obtain ⟨vid, hvid, hrid⟩ := rep_entry rpr2 lkR1
          cases n with
          | zero => exact hrid.elim
          | succ n =>
          have e : vid = .int jd := hrid
          subst e
          exact ev_get (Evl.ev_var rfl) Evl.ev_c (.inl (e3 _ _ (e2 _ _ hra2))) hvid
        · refine ⟨_, rfl, _, rfl, wa, _, rfl, .inl ⟨_, Sum.inr "id", e3 _ _ (e2 _ _ hwa), rfl, (by show 3 < sizeLine; decide), rfl⟩, num, rfl, fun b o nb hb => by rw [upd_ne nb]; exact e3 _ _ hb, by rw [upd_same, putId], n0, n1, .inr fun hm => ?_⟩
          rw [inV_ints.mpr hm] at hb
          cases hb
        · exact ⟨idl, rfl, fun b o _ hb => e3 _ _ hb, e3 _ _ (e2 _ _ hwa), i0, i1, .inl rfl⟩
      rintro σ' H3 ⟨idn, rfl, fr3, hwa3, j0, j1, idn_ok⟩
      have vlT := wtr.2 2 (.dic lls) vl rfl rfl
      have vfT := wtr.2 1 (.dic fs) vf rfl rfl
      have vl3 : RepT H3 n (fun b => ((((((S b ∧ b ≠ d) ∧ ix b = j) ∧ b ≠ ra) ∧ ixr b = xs.length - 1) ∧ b ≠ wa) ∧ ixw b = 2)) (.dic lls) vl := rt_to (fun b o hb h => fr3 b o hb.1.2 (e2 _ _ h)) vlT
      have vf3 : RepT H3 n (fun b => ((((((S b ∧ b ≠ d) ∧ ix b = j) ∧ b ≠ ra) ∧ ixr b = xs.length - 1) ∧ b ≠ wa) ∧ ixw b = 1)) (.dic fs) vf := rt_to (fun b o hb h => fr3 b o hb.1.2 (e2 _ _ h)) vfT
      have sn1 : ((upS i).map (·.1)).Nodup := by
        have e : (upS i).map (·.1) = i.map (·.1) := by unfold upS; rw [List.map_map]; rfl
        rw [e]
        have := s1 _ (List.mem_of_getElem? hsj)
        match i, this with
        | [], _ => exact List.nodup_nil
        | [x], _ => simp
      refine ⟨_, rfl, wa, vl, rfl, .inl ⟨_, Sum.inr "lists", .inl hwa3, rfl, lkV3.symm⟩, _, rfl, _, _, rfl, rfl, vl, 1000000 - num, n, _, lls, upS i, rfl, vl3, hgl, sn1, fun p hp => ?_, by omega, by omega, fun H4 lls' fr4 vl4 hgl4 => ?_⟩
      · unfold upS at hp
        obtain ⟨q, _, rfl⟩ := List.mem_map.mp hp
        exact Nat.zero_le _
      · have waS : ¬ ((((((S wa ∧ wa ≠ d) ∧ ix wa = j) ∧ wa ≠ ra) ∧ ixr wa = xs.length - 1) ∧ wa ≠ wa) ∧ ixw wa = 2) := fun z => z.1.2 rfl
        have hwa4 := fr4 wa _ waS hwa3
        have vf4 : RepT H4 n (fun b => ((((((S b ∧ b ≠ d) ∧ ix b = j) ∧ b ≠ ra) ∧ ixr b = xs.length - 1) ∧ b ≠ wa) ∧ ixw b = 1)) (.dic fs) vf := rt_to (fun b o hb h => fr4 b o (fun z => absurd (hb.2.symm.trans z.2) (by decide)) h) vf3
        -- outside the row nothing moved
        have frR : ∀ b o, ¬ ((((S b ∧ b ≠ d) ∧ ix b = j) ∧ b ≠ ra) ∧ ixr b = xs.length - 1) → H1 b = some o → H4 b = some o := fun b o hb h => by
          refine fr4 b o (fun z => hb z.1.1) (fr3 b o (fun z => hb ?_) (e2 _ _ h))
          rw [z]; exact Swa
        have rowT : RepT H4 (n + 1) (fun b => (((S b ∧ b ≠ d) ∧ ix b = j) ∧ b ≠ ra) ∧ ixr b = xs.length - 1) (rowD idn fs lls') (.ref wa) := by
          refine ⟨wa, _, ixw, rfl, Swa, hwa4, (by show 3 ≤ 100000; decide), rfl, rfl, fun t dd x h1 h2 => ?_⟩
          match t, h1, h2 with
          | 0, h1, h2 =>
            cases h1; cases h2
            cases n with
            | zero => exact vf4.elim
            | succ n => rfl
          | 1, h1, h2 => cases h1; cases h2; exact vf4
          | 2, h1, h2 => cases h1; cases h2; exact vl4
          | t + 3, h1, h2 => cases h1
        have rowsT : RepT H4 (n + 2) (fun b => (S b ∧ b ≠ d) ∧ ix b = j) (.lst (rs.set (xs.length - 1) (rowD idn fs lls'))) (.ref ra) := by
          refine ⟨ra, xs, ixr, rfl, Sra, frR ra _ (fun z => z.1.2 rfl) hra1, by rw [List.length_set]; exact r5, tr_upd trr1 (fun t dd x ne r => rt_to (fun b o hb h => frR b o (fun z => ne (hb.2.symm.trans z.2)) h) r) fun x hx => ?_⟩
          rw [hxw] at hx; cases hx
          exact rowT
        refine ⟨ls'.set j (nm, .lst (rs.set (xs.length - 1) (rowD idn fs lls'))), _, _, _, rfl, fun b o h1 h2 => frR b o (fun z => h1 z.1.1.1.1) (fr1 b o h1 h2), frR d _ (fun z => z.1.1.1.2 rfl) hdf1, ?_, ?_⟩
        · rw [List.map_set]
          refine tr_upd tr11 (fun t dd x ne r => rt_to (fun b o hb h => frR b o (fun z => ne (hb.2.symm.trans z.1.1.2)) h) r) fun x hx => ?_
          rw [List.getElem?_map, hkv] at hx; cases hx
          exact rowsT
        · refine pair_set1 hg1 hsj ⟨rfl, rs.set (xs.length - 1) (rowD idn fs lls'), ids.set (xs.length - 1) idn, rfl, ?_, by rw [List.length_set]; exact r6, pair_set prs ⟨fs, lls', rfl, j0, j1, okf, hgl4⟩⟩
          rcases idn_ok with e | e
          · subst e
            have : ids.set (xs.length - 1) idn = ids := by
              refine List.ext_getElem? fun t => ?_
              rw [List.getElem?_set]
              by_cases c : xs.length - 1 = t
              · rw [if_pos c, ← c, if_pos (by omega), hidl]
              · rw [if_neg c]
            rw [this]; exact ndi
          · exact nodup_set ndi e
    · obtain ⟨ls', o2, o3, o4, rfl, fr, hdf, tr1, hg1⟩ := pv
      refine k _ ls' (fun b o h1 h2 => ?_) ⟨d, es, ix, rfl, Sd, upd_same, ?_, ?_, tr_imp (fun i d' x r => rt_upd (fun b hb => hb.1.2) r) tr1⟩ hg1
      · have : b ≠ d := fun e => h1 (by rw [e]; exact Sd)
        rw [upd_ne this]
        exact fr b o h1 (by rw [upd_ne this]; exact h2)
      · rw [pair_len hg1, ← pair_len hg]; exact l5
      · rw [ek]
        have h1 : ls.map (fun q => (Sum.inr q.1 : Key)) = (ls.map (·.1)).map Sum.inr := by rw [List.map_map]; rfl
        have h2 : ls'.map (fun q => (Sum.inr q.1 : Key)) = (ls'.map (·.1)).map Sum.inr := by rw [List.map_map]; rfl
        rw [h1, h2, lnames, pair_names hg1]
end
end Pk

namespace Pk
open PySem PySem.Spec PyProof.Rows L2 Ssb
open Evl (Ex Ev EvT EvL EvA EvU)
/-! ### what is told of generated data, without a heap -/
def simD : Nat → D → D → Prop
  | n + 1, d1, .bl b => d1 = .bl b
  | n + 1, d1, .int i => d1 = .int i
  | n + 1, d1, .str s => d1 = .str s
  | n + 1, d1, .lst l2 => ∃ l1, d1 = .lst l1 ∧ Paired (fun x y => simD n x y) l1 l2
  | n + 1, d1, .dic l2 => ∃ l1 l', d1 = .dic l1 ∧ l1.Perm l' ∧ Paired (fun (p q : Str × D) => p.1 = q.1 ∧ simD n p.2 q.2) l' l2 ∧ (l2.map (·.1)).Nodup
  | _, _, _ => False
theorem lk_mem2 : ∀ {l : List (Str × D)} {k : Str} {d : D}, l.lookup k = some d → (k, d) ∈ l
  | (j, d0) :: l, k, d, h => by
    rw [lk_cons] at h
    by_cases c : k = j
    · rw [if_pos c] at h; cases h; rw [c]; exact List.mem_cons_self
    · rw [if_neg c] at h; exact List.mem_cons_of_mem _ (lk_mem2 h)
theorem lk_sim {n : Nat} {l1 l' l2 : List (Str × D)} (pm : l1.Perm l') (pr : Paired (fun (p q : Str × D) => p.1 = q.1 ∧ simD n p.2 q.2) l' l2) (nd : (l2.map (·.1)).Nodup) {k : Str} {d : D} (h : l2.lookup k = some d) : ∃ x, l1.lookup k = some x ∧ simD n x d := by
  obtain ⟨t, ht, e⟩ := List.mem_iff_getElem.mp (lk_mem2 h)
  obtain ⟨p, hp, h1, h2⟩ := pair_back pr (i := t) (b := (k, d)) (by rw [← e]; exact List.getElem?_eq_getElem ht)
  obtain ⟨k', x⟩ := p
  have h1 : k' = k := h1
  subst h1
  refine ⟨x, lk_of_mem ?_ (pm.mem_iff.mpr (List.mem_of_getElem? hp)), h2⟩
  rw [(pm.map (·.1)).nodup_iff, pair_names pr]
  exact nd
theorem sim_same : ∀ {n : Nat} {d1 d2 : D}, simD n d1 d2 → sameD n d1 d2
  | 0, _, d2, h => by cases d2 <;> exact h.elim
  | n + 1, d1, d2, h => by
    cases d2 with
    | non => exact h.elim
    | tup l => exact h.elim
    | bl b => exact h
    | int b => exact h
    | str b => exact h
    | lst l2 =>
      obtain ⟨l1, e, pr⟩ := h
      exact ⟨l1, e, pair_imp pr fun a b h => sim_same h⟩
    | dic l2 =>
      obtain ⟨l1, l', e, pm, pr, nd⟩ := h
      refine ⟨l1, e, by rw [pm.length_eq, pair_len pr], nd, fun p hp => ?_⟩
      obtain ⟨x, hx, hs⟩ := lk_sim pm pr nd (lk_of_mem nd hp)
      exact ⟨x, hx, sim_same hs⟩
theorem pair_map {α β : Type} {F : β → α → Prop} {g : α → β} : ∀ {l : List α}, (∀ x ∈ l, F (g x) x) → Paired F (l.map g) l
  | [], _ => .nil
  | x :: l, h => .cons (h x List.mem_cons_self) (pair_map fun y hy => h y (List.mem_cons_of_mem _ hy))
theorem pair_mem {α β : Type} {F : α → β → Prop} {l : List α} {m : List β} (p : Paired F l m) : ∀ x ∈ l, ∃ y ∈ m, F x y := fun x hx => by
  obtain ⟨t, ht, e⟩ := List.mem_iff_getElem.mp hx
  obtain ⟨b, hb, h⟩ := pair_at p (i := t) (a := x) (by rw [← e]; exact List.getElem?_eq_getElem ht)
  exact ⟨b, List.mem_of_getElem? hb, h⟩
theorem turn_sim {H : Hp} : ∀ {n : Nat} {S : Addr → Prop} {d : D} {v : V}, Rep H n S d v → pl n d → simD n (turn n d) d
  | 0, _, _, _, h, _ => h.elim
  | n + 1, S, d, v, h, hp => by
    cases d with
    | non => exact hp.elim
    | tup l => exact hp.elim
    | bl b => rfl
    | int b => rfl
    | str b => rfl
    | lst l =>
      obtain ⟨a, xs, _, _, _, _, pr⟩ := h
      exact ⟨_, rfl, pair_map fun x hx => by obtain ⟨y, _, hy⟩ := pair_mem pr x hx; exact turn_sim hy (hp x hx)⟩
    | dic l =>
      obtain ⟨a, xs, _, _, _, _, pr⟩ := h
      exact ⟨_, _, rfl, List.reverse_perm _, pair_map fun x hx => by obtain ⟨y, _, _, hy⟩ := pair_mem pr x hx; exact ⟨rfl, turn_sim hy (hp.2 x hx)⟩, hp.1⟩
theorem self_sim {H : Hp} : ∀ {n : Nat} {S : Addr → Prop} {d : D} {v : V}, Rep H n S d v → pl n d → simD n d d
  | 0, _, _, _, h, _ => h.elim
  | n + 1, S, d, v, h, hp => by
    cases d with
    | non => exact hp.elim
    | tup l => exact hp.elim
    | bl b => rfl
    | int b => rfl
    | str b => rfl
    | lst l =>
      obtain ⟨a, xs, _, _, _, _, pr⟩ := h
      refine ⟨l, rfl, ?_⟩
      have := pair_map (l := l) (g := _root_.id) (F := fun x y => simD n x y) fun x hx => by obtain ⟨y, _, hy⟩ := pair_mem pr x hx; exact self_sim hy (hp x hx)
      rw [List.map_id] at this
      exact this
    | dic l =>
      obtain ⟨a, xs, _, _, _, _, pr⟩ := h
      refine ⟨l, l, rfl, List.Perm.refl _, ?_, hp.1⟩
      have := pair_map (l := l) (g := _root_.id) (F := fun (p q : Str × D) => p.1 = q.1 ∧ simD n p.2 q.2) fun x hx => by obtain ⟨y, _, _, hy⟩ := pair_mem pr x hx; exact ⟨rfl, self_sim hy (hp.2 x hx)⟩
      rw [List.map_id] at this
      exact this
theorem perm_sum {α : Type} {f : α → Int} {l m : List α} (p : l.Perm m) : (l.map f).sum = (m.map f).sum := by
  induction p with
  | nil => rfl
  | cons x _ ih => rw [List.map_cons, List.map_cons, List.sum_cons, List.sum_cons, ih]
  | swap x y l => simp only [List.map_cons, List.sum_cons]; omega
  | trans _ _ h1 h2 => exact h1.trans h2
theorem pair_sum {α β : Type} {f : α → Int} {g : β → Int} {F : α → β → Prop} {l : List α} {m : List β} (p : Paired F l m) (h : ∀ a b, a ∈ l → b ∈ m → F a b → f a = g b) : (l.map f).sum = (m.map g).sum := by
  induction p with
  | nil => rfl
  | cons h0 t ih => rw [List.map_cons, List.map_cons, List.sum_cons, List.sum_cons, ih fun a b ha hb => h a b (List.mem_cons_of_mem _ ha) (List.mem_cons_of_mem _ hb), h _ _ List.mem_cons_self List.mem_cons_self h0]
theorem wf_sim : ∀ {m n : Nat} {d1 d2 : D}, simD n d1 d2 → wfR m d2 → wfR m d1 ∧ rowsN m d1 = rowsN m d2
  | 0, _, _, _, _, h => h.elim
  | m + 1, n, d1, d2, hs, hw => by
    obtain ⟨l, ls, rfl, hl, hr⟩ := id hw
    cases n with
    | zero => exact hs.elim
    | succ n =>
    obtain ⟨l1, l', rfl, pm, pr, nd⟩ := hs
    obtain ⟨x, hx, hsx⟩ := lk_sim pm pr nd hl
    cases n with
    | zero => exact hsx.elim
    | succ n =>
    obtain ⟨ls1, ls', rfl, pm2, pr2, nd2⟩ := hsx
    have key : ∀ (p q : Str × D), p ∈ ls' → q ∈ ls → (p.1 = q.1 ∧ simD n p.2 q.2) → (∃ rs, p.2 = .lst rs ∧ ∀ r ∈ rs, wfR m r) ∧ rowsL m p.2 = rowsL m q.2 := fun p q _ hq hpq => by
      obtain ⟨rs, e, hrs⟩ := hr q hq
      obtain ⟨_, hpq⟩ := hpq
      rw [e] at hpq
      cases n with
      | zero => exact hpq.elim
      | succ n =>
      obtain ⟨rs1, e1, prs⟩ := hpq
      refine ⟨⟨rs1, e1, fun r hr1 => ?_⟩, ?_⟩
      · obtain ⟨r2, hr2, hs2⟩ := pair_mem prs r hr1
        exact (wf_sim hs2 (hrs r2 hr2)).1
      · rw [e, e1]
        show (rs1.length : Int) + (rs1.map (rowsN m)).sum = (rs.length : Int) + (rs.map (rowsN m)).sum
        rw [pair_len prs, pair_sum prs fun a b ha hb h => (wf_sim h (hrs b hb)).2]
    refine ⟨⟨l1, ls1, rfl, hx, fun p hp => ?_⟩, ?_⟩
    · have hp' := pm2.mem_iff.mp hp
      obtain ⟨q, hq, h⟩ := pair_mem pr2 p hp'
      exact (key p q hp' hq h).1
    · rw [rowsN_eq hl, rowsN_eq hx, perm_sum pm2]
      exact pair_sum pr2 fun a b ha hb h => (key a b ha hb h).2
theorem okFs_sim {n : Nat} {f : Fl} {c1 c' c2 : List (Str × D)} (pm : c1.Perm c') (pr : Paired (fun (p q : Str × D) => p.1 = q.1 ∧ simD n p.2 q.2) c' c2) (nd : (c2.map (·.1)).Nodup) (h : okFs f c2) : okFs f c1 := by
  refine ⟨by rw [pm.length_eq, pair_len pr]; exact h.1, fun p hp => ?_⟩
  obtain ⟨x, hx, hm⟩ := h.2 p hp
  obtain ⟨y, hy, hs⟩ := lk_sim pm pr nd hx
  cases n with
  | zero => exact hs.elim
  | succ n =>
    have e : y = .str x := hs
    exact ⟨x, by rw [hy, e], hm⟩
theorem okRows_sim {s : Sh} : ∀ {m n : Nat} {r : Ro} {d1 d2 : D}, simD n d1 d2 → okRows s m r d2 → okRows s m r d1
  | 0, _, _, _, _, _, h => h.elim
  | m + 1, n, r, d1, d2, hs, h => by
    obtain ⟨rs, ids, rfl, ndi, l4, prs⟩ := h
    cases n with
    | zero => exact hs.elim
    | succ n =>
    obtain ⟨rs1, rfl, pr1⟩ := hs
    refine ⟨rs1, ids, rfl, ndi, by rw [pair_len pr1]; exact l4, pair_of (by rw [pair_len pr1, pair_len prs]) fun t row id h1 h2 => ?_⟩
    obtain ⟨row2, hrow2, hsr⟩ := pair_at pr1 h1
    obtain ⟨id', hid', l, fs, ls, rfl, l3, hid, i0, i1, hfs, okf, hls, lls, okl⟩ := pair_at prs hrow2
    rw [h2] at hid'
    cases hid'
    cases n with
    | zero => exact hsr.elim
    | succ n =>
    obtain ⟨l1, l', rfl, pm, pr, nd⟩ := hsr
    obtain ⟨x1, hx1, hs1⟩ := lk_sim pm pr nd hid
    obtain ⟨x2, hx2, hs2⟩ := lk_sim pm pr nd hfs
    obtain ⟨x3, hx3, hs3⟩ := lk_sim pm pr nd hls
    cases n with
    | zero => exact hs1.elim
    | succ n =>
    have e1 : x1 = .int id := hs1
    subst e1
    obtain ⟨c1, c', rfl, pmc, prc, ndc⟩ := hs2
    obtain ⟨k1, k', rfl, pmk, prk, ndk⟩ := hs3
    refine ⟨l1, c1, k1, rfl, by rw [pm.length_eq, pair_len pr]; exact l3, hx1, i0, i1, hx2, okFs_sim pmc prc ndc okf, hx3, by rw [pmk.length_eq, pair_len prk]; exact lls, fun r' hr' hp' => ?_⟩
    obtain ⟨d', hd', hok⟩ := okl r' hr' hp'
    obtain ⟨x, hx, hsx⟩ := lk_sim pmk prk ndk hd'
    exact ⟨x, hx, okRows_sim hsx hok⟩
theorem okD_sim {n : Nat} {fl : List Str} {s : Sh} {d1 d2 : D} (hs : simD n d1 d2) (h : okD fl s d2) : okD fl s d1 := by
  obtain ⟨l, fgs, ls, rfl, l2, hfg, lfg, okg, hls, okl, wf, few⟩ := h
  have hw := wf_sim hs wf
  cases n with
  | zero => exact hs.elim
  | succ n =>
  obtain ⟨l1, l', rfl, pm, pr, nd⟩ := hs
  obtain ⟨x2, hx2, hs2⟩ := lk_sim pm pr nd hfg
  obtain ⟨x3, hx3, hs3⟩ := lk_sim pm pr nd hls
  cases n with
  | zero => exact hs2.elim
  | succ n =>
  obtain ⟨c1, c', rfl, pmc, prc, ndc⟩ := hs2
  obtain ⟨k1, k', rfl, pmk, prk, ndk⟩ := hs3
  refine ⟨l1, c1, k1, rfl, by rw [pm.length_eq, pair_len pr]; exact l2, hx2, by rw [pmc.length_eq, pair_len prc]; exact lfg, fun x hx => ?_, hx3, ⟨by rw [pmk.length_eq, pair_len prk]; exact okl.1, fun r' hr' hp' => ?_⟩, hw.1, by rw [hw.2]; exact few⟩
  · obtain ⟨b, hb⟩ := okg x hx
    obtain ⟨y, hy, hsy⟩ := lk_sim pmc prc ndc hb
    cases n with
    | zero => exact hsy.elim
    | succ n =>
      have e : y = .bl b := hsy
      exact ⟨b, by rw [hy, e]⟩
  · obtain ⟨d', hd', hok⟩ := okl.2 r' hr' hp'
    obtain ⟨x, hx, hsx⟩ := lk_sim pmk prk ndk hd'
    exact ⟨x, hx, okRows_sim hsx hok⟩
end Pk

namespace Pk
open PySem PySem.Spec PyProof.Rows L2 Ssb
open Evl (Ex Ev EvT EvL EvA EvU)
theorem pl_fs {f : Fl} {fs : List (Str × D)} (h : okF2 f fs) : ∀ n, pl n (.dic fs)
  | 0 => trivial
  | n + 1 => ⟨h.2.1, fun p hp => by
    obtain ⟨x, hx⟩ := h.2.2 p hp
    rw [hx]
    cases n <;> trivial⟩
theorem pl_row {id : Int} {fs ls : List (Str × D)} (h1 : ∀ n, pl n (.dic fs)) (h2 : ∀ n, pl n (.dic ls)) : ∀ n, pl n (rowD id fs ls)
  | 0 => trivial
  | n + 1 => by
    refine ⟨?_, fun p hp => ?_⟩
    · have : (([("id", .int id), ("fields", .dic fs), ("lists", .dic ls)] : List (Str × D)).map (·.1)) = (["id", "fields", "lists"] : List Str) := rfl
      rw [this]; decide +kernel
    · rcases List.mem_cons.mp hp with rfl | hp
      · cases n <;> trivial
      · rcases List.mem_cons.mp hp with rfl | hp
        · exact h1 n
        · rw [List.mem_singleton.mp hp]; exact h2 n
theorem up_names (i : List (Str × Fl)) : (upS i).map (·.1) = i.map (·.1) := by unfold upS; rw [List.map_map]; rfl
/-- names different at each level -/
def okI : Sh → Prop := fun s => (s.map (·.1)).Nodup ∧ ∀ p ∈ s, (p.2.2.map (·.1)).Nodup
theorem okI_up {i : List (Str × Fl)} (h : (i.map (·.1)).Nodup) : okI (upS i) := by
  refine ⟨by rw [up_names]; exact h, fun p hp => ?_⟩
  unfold upS at hp
  obtain ⟨q, _, rfl⟩ := List.mem_map.mp hp
  exact List.nodup_nil
theorem pl_gR : ∀ {m : Nat} {f : Fl} {i : List (Str × Fl)} {d : D}, gR m f i d → (i.map (·.1)).Nodup → ∀ n, pl n d
  | 0, _, _, _, h, _, _ => h.elim
  | m + 1, f, i, d, h, hi, n => by
    obtain ⟨rs, ids, rfl, _, _, prs⟩ := h
    cases n with
    | zero => trivial
    | succ n =>
    intro x hx
    obtain ⟨id, _, fs, ls, rfl, _, _, okf, pg⟩ := pair_mem prs x hx
    refine pl_row (pl_fs okf) (fun n => ?_) n
    cases n with
    | zero => trivial
    | succ n =>
    refine ⟨by rw [pair_names pg, up_names]; exact hi, fun p hp => ?_⟩
    obtain ⟨q, hq, _, hg⟩ := pair_mem pg p hp
    exact pl_gR hg ((okI_up hi).2 q hq) n
theorem wf_gR : ∀ {m : Nat} {f : Fl} {i : List (Str × Fl)} {d : D}, gR m f i d → ∃ rs, d = .lst rs ∧ ∀ r ∈ rs, wfR m r
  | 0, _, _, _, h => h.elim
  | m + 1, f, i, d, h => by
    obtain ⟨rs, ids, rfl, _, _, prs⟩ := h
    refine ⟨rs, rfl, fun x hx => ?_⟩
    obtain ⟨id, _, fs, ls, rfl, _, _, okf, pg⟩ := pair_mem prs x hx
    refine ⟨_, ls, rfl, lkR3, fun p hp => ?_⟩
    obtain ⟨q, hq, _, hg⟩ := pair_mem pg p hp
    exact wf_gR hg
def bnd : Nat → Int
  | 0 => 0
  | m + 1 => 6 + 6 * bnd m
theorem bnd0 : ∀ m, 0 ≤ bnd m
  | 0 => Int.le_refl _
  | m + 1 => by have := bnd0 m; show 0 ≤ 6 + 6 * bnd m; omega
theorem sum_le {α : Type} {f : α → Int} {b : Int} : ∀ {l : List α}, (∀ x ∈ l, f x ≤ b) → (l.map f).sum ≤ (l.length : Int) * b
  | [], _ => by simp
  | x :: l, h => by
    have h1 := sum_le fun y hy => h y (List.mem_cons_of_mem _ hy)
    have h2 := h x List.mem_cons_self
    rw [List.map_cons, List.sum_cons, List.length_cons, show ((l.length + 1 : Nat) : Int) * b = (l.length : Int) * b + b by rw [Int.natCast_add, Int.add_mul]; omega]
    omega
theorem mul_le {n : Nat} {k b : Int} (h : (n : Int) ≤ k) (hb : 0 ≤ b) : (n : Int) * b ≤ k * b := Int.mul_le_mul_of_nonneg_right h hb
theorem bnd_gR : ∀ {m : Nat} {f : Fl} {i : List (Str × Fl)} {d : D}, gR m f i d → i.length ≤ 1 → rowsL m d ≤ bnd m
  | 0, _, _, _, h, _ => h.elim
  | m + 1, f, i, d, h, hi => by
    obtain ⟨rs, ids, rfl, _, r6, prs⟩ := h
    have b0 := bnd0 m
    have row : ∀ r ∈ rs, rowsN (m + 1) r ≤ bnd m := fun x hx => by
      obtain ⟨id, _, fs, ls, rfl, _, _, okf, pg⟩ := pair_mem prs x hx
      rw [show rowD id fs ls = .dic [("id", .int id), ("fields", .dic fs), ("lists", .dic ls)] from rfl, rowsN_eq lkR3]
      have h1 := sum_le (f := fun p : Str × D => rowsL m p.2) (b := bnd m) (l := ls) fun p hp => by
        obtain ⟨q, hq, _, hg⟩ := pair_mem pg p hp
        refine bnd_gR hg ?_
        unfold upS at hq
        obtain ⟨q', _, rfl⟩ := List.mem_map.mp hq
        exact Nat.zero_le _
      have h2 : (ls.length : Int) ≤ 1 := by rw [pair_len pg]; unfold upS; rw [List.length_map]; omega
      have h3 := mul_le h2 b0
      omega
    have h1 := sum_le row
    have h2 : (rs.length : Int) ≤ 6 := by omega
    have h3 := mul_le h2 b0
    show (rs.length : Int) + (rs.map (rowsN (m + 1))).sum ≤ 6 + 6 * bnd m
    omega
/-! ### the lists of a shape -/
theorem rows_mem {s : Sh} {r : Ro} (h : r ∈ rowsS s) : ∃ p ∈ s, r = (p.1, none, p.2.1) ∨ ∃ q ∈ p.2.2, r = (q.1, some p.1, q.2) := by
  obtain ⟨p, hp, hr⟩ := List.mem_flatMap.mp h
  refine ⟨p, hp, ?_⟩
  unfold rowsOf at hr
  rcases List.mem_cons.mp hr with e | hr
  · exact .inl e
  · obtain ⟨q, hq, e⟩ := List.mem_map.mp hr
    exact .inr ⟨q, hq, e.symm⟩
theorem row_out {s : Sh} {p : Str × Fl × List (Str × Fl)} (h : p ∈ s) : ((p.1, none, p.2.1) : Ro) ∈ rowsS s := List.mem_flatMap.mpr ⟨p, h, List.mem_cons_self⟩
theorem row_in {s : Sh} {p : Str × Fl × List (Str × Fl)} {q : Str × Fl} (h : p ∈ s) (hq : q ∈ p.2.2) : ((q.1, some p.1, q.2) : Ro) ∈ rowsS s := List.mem_flatMap.mpr ⟨p, h, List.mem_cons_of_mem _ (List.mem_map.mpr ⟨q, hq, rfl⟩)⟩
theorem nd_inj {α : Type} {l : List (Str × α)} (nd : (l.map (·.1)).Nodup) {x y : Str × α} (hx : x ∈ l) (hy : y ∈ l) (e : x.1 = y.1) : x = y := by
  have h1 := lk_of_mem (k := x.1) (x := x.2) nd hx
  have h2 := lk_of_mem (k := y.1) (x := y.2) nd hy
  rw [e, h2] at h1
  exact Prod.ext e (Option.some.inj h1).symm
theorem kids_cons (p : Str × Fl × List (Str × Fl)) (s : Sh) (par : Option Str) : kids (p :: s) par = ((rowsOf p).filter fun r => decide (r.2.1 = par)).map (·.1) ++ kids s par := by
  unfold kids
  show (((rowsOf p ++ rowsS s).filter _).map _) = _
  rw [List.filter_append, List.map_append]
theorem filt_in (nm : Str) (q : Option Str) (i : List (Str × Fl)) : ((i.map fun q => ((q.1, some nm, q.2) : Ro)).filter fun r => decide (r.2.1 = q)) = if q = some nm then (i.map fun q => ((q.1, some nm, q.2) : Ro)) else [] := by
  by_cases c : q = some nm
  · rw [if_pos c]
    refine List.filter_eq_self.mpr fun r hr => ?_
    obtain ⟨x, _, rfl⟩ := List.mem_map.mp hr
    exact decide_eq_true c.symm
  · rw [if_neg c]
    refine List.filter_eq_nil_iff.mpr fun r hr => ?_
    obtain ⟨x, _, rfl⟩ := List.mem_map.mp hr
    rw [decide_eq_false (fun z => c z.symm)]; exact Bool.false_ne_true
theorem kids_none : ∀ s : Sh, kids s none = s.map (·.1)
  | [] => rfl
  | p :: s => by
    rw [kids_cons, kids_none s]
    unfold rowsOf
    rw [List.filter_cons, if_pos (by exact decide_eq_true rfl), filt_in, if_neg (by exact fun h => nomatch h)]
    rfl
theorem kids_some : ∀ {s : Sh} {nm : Str}, (kids s (some nm)).length = ((s.filter fun p => decide (p.1 = nm)).map fun p => p.2.2.length).sum
  | [], _ => rfl
  | p :: s, nm => by
    rw [kids_cons, List.length_append, kids_some]
    unfold rowsOf
    rw [List.filter_cons, if_neg (by rw [decide_eq_false (by exact fun h => nomatch h)]; exact Bool.false_ne_true), filt_in, List.filter_cons]
    by_cases c : p.1 = nm
    · rw [if_pos (by rw [c]), if_pos (decide_eq_true c), List.map_cons, List.sum_cons, List.length_map, List.length_map]
    · rw [if_neg (fun h => c (Option.some.inj h).symm), if_neg (by rw [decide_eq_false c]; exact Bool.false_ne_true)]
      simp
theorem filt_one : ∀ {s : Sh} {p : Str × Fl × List (Str × Fl)}, (s.map (·.1)).Nodup → p ∈ s → (s.filter fun q => decide (q.1 = p.1)) = [p]
  | q :: s, p, nd, h => by
    rw [List.map_cons, List.nodup_cons] at nd
    rw [List.filter_cons]
    rcases List.mem_cons.mp h with e | h
    · subst e
      rw [if_pos (decide_eq_true rfl)]
      congr 1
      refine List.filter_eq_nil_iff.mpr fun x hx hd => nd.1 ?_
      rw [← of_decide_eq_true hd]
      exact List.mem_map.mpr ⟨x, hx, rfl⟩
    · have c : ¬ q.1 = p.1 := fun e => nd.1 (by rw [e]; exact List.mem_map.mpr ⟨p, h, rfl⟩)
      rw [if_neg (by rw [decide_eq_false c]; exact Bool.false_ne_true)]
      exact filt_one nd.2 h
/-- what stands under a name -/
def Under (s : Sh) (nm : Str) (i : List (Str × Fl)) : Prop := (kids s (some nm)).length = i.length ∧ ∀ r ∈ rowsS s, r.2.1 = some nm → ∃ q ∈ i, r = (q.1, some nm, q.2)
theorem under_out {s : Sh} (nd : (s.map (·.1)).Nodup) {p : Str × Fl × List (Str × Fl)} (h : p ∈ s) : Under s p.1 p.2.2 := by
  refine ⟨by rw [kids_some, filt_one nd h]; simp, fun r hr hp => ?_⟩
  obtain ⟨p', hp', e | ⟨q, hq, e⟩⟩ := rows_mem hr
  · rw [e] at hp; cases hp
  · rw [e] at hp
    have e2 : p'.1 = p.1 := Option.some.inj hp
    have := nd_inj nd hp' h e2
    subst this
    exact ⟨q, hq, e⟩
theorem under_in {s : Sh} (nd : ((rowsS s).map (·.1)).Nodup) {p : Str × Fl × List (Str × Fl)} {q : Str × Fl} (h : p ∈ s) (hq : q ∈ p.2.2) : Under s q.1 [] := by
  have no : ∀ p' ∈ s, p'.1 ≠ q.1 := fun p' hp' e => by
    have := nd_inj nd (row_out hp') (row_in h hq) e
    cases congrArg (fun r : Ro => r.2.1) this
  refine ⟨?_, fun r hr hp => ?_⟩
  · rw [kids_some, List.filter_eq_nil_iff.mpr fun x hx => by rw [decide_eq_false (no x hx)]; exact Bool.false_ne_true]
    rfl
  · obtain ⟨p', hp', e | ⟨q', hq', e⟩⟩ := rows_mem hr
    · rw [e] at hp; cases hp
    · rw [e] at hp
      exact absurd (Option.some.inj hp) (no p' hp')
theorem ok_gR {s : Sh} : ∀ {m : Nat} {r : Ro} {i : List (Str × Fl)} {d : D}, gR m r.2.2 i d → Under s r.1 i → (i.map (·.1)).Nodup → (∀ q ∈ i, Under s q.1 []) → okRows s m r d
  | 0, _, _, _, h, _, _, _ => h.elim
  | m + 1, r, i, d, h, hu, nd, hq => by
    obtain ⟨rs, ids, rfl, ndi, r6, prs⟩ := h
    refine ⟨rs, ids, rfl, ndi, by omega, pair_imp prs fun row id hr => ?_⟩
    obtain ⟨fs, ls, rfl, i0, i1, okf, pg⟩ := hr
    have ndl : (ls.map (·.1)).Nodup := by rw [pair_names pg, up_names]; exact nd
    refine ⟨_, fs, ls, rfl, rfl, lkR1, i0, i1, lkR2, okf.1, lkR3, ?_, fun r' hr' hp' => ?_⟩
    · rw [hu.1, pair_len pg]; unfold upS; rw [List.length_map]
    · obtain ⟨q, hqi, e⟩ := hu.2 r' hr' hp'
      obtain ⟨t, ht, et⟩ := List.mem_iff_getElem.mp hqi
      have hup : (upS i)[t]? = some (q.1, q.2, []) := by
        unfold upS
        rw [List.getElem?_map, List.getElem?_eq_getElem ht, et]; rfl
      obtain ⟨p, hp, h1, h2⟩ := pair_back pg hup
      have h1 : p.1 = q.1 := h1
      subst e
      refine ⟨p.2, lk_of_mem ndl (by rw [← h1]; exact List.mem_of_getElem? hp), ok_gR (r := (q.1, some r.1, q.2)) h2 (hq q hqi) List.nodup_nil fun z hz => (nomatch hz)⟩
theorem ls_ok {s : Sh} {ls : List (Str × D)} (hz : okSh s) (hg : gLs 2 ls s) : okLs s 2 none ls := by
  have snd := sh_nd hz.2.1
  have ndl : (ls.map (·.1)).Nodup := by rw [pair_names hg]; exact snd
  refine ⟨by rw [kids_none, List.length_map, pair_len hg], fun r' hr' hp' => ?_⟩
  obtain ⟨p, hp, e | ⟨q, hq, e⟩⟩ := rows_mem hr'
  · subst e
    obtain ⟨t, ht, et⟩ := List.mem_iff_getElem.mp hp
    obtain ⟨x, hx, h1, h2⟩ := pair_back hg (i := t) (b := p) (by rw [← et]; exact List.getElem?_eq_getElem ht)
    have h1 : x.1 = p.1 := h1
    have il : p.2.2.length ≤ 1 := (hz.2.2 p hp).2.2.1
    have ind : (p.2.2.map (·.1)).Nodup := by
      match p.2.2, il with
      | [], _ => exact List.nodup_nil
      | [x], _ => simp
    exact ⟨x.2, lk_of_mem ndl (by rw [← h1]; exact List.mem_of_getElem? hx), ok_gR (r := (p.1, none, p.2.1)) h2 (under_out snd hp) ind fun q hq => under_in hz.2.1 hp hq⟩
  · rw [e] at hp'; cases hp'
theorem lk2f {d1 d2 : D} : List.lookup ("flags" : Str) [(("flags" : Str), d1), (("lists" : Str), d2)] = some d1 := by rw [lk_cons, if_pos rfl]
theorem lk2l {d1 d2 : D} : List.lookup ("lists" : Str) [(("flags" : Str), d1), (("lists" : Str), d2)] = some d2 := by rw [lk_cons, if_neg (fun e => nGL e.symm), lk_cons, if_pos rfl]
theorem gD_ok {fl fl' : List Str} {s : Sh} {dd : D} (hz : okSh s) (fnd : fl.Nodup) (perm : fl'.Perm fl) (h : gD fl s dd) : okD fl' s dd ∧ (∀ n, pl n dd) ∧ ∃ ls, (∃ l, dd = .dic l ∧ l.lookup ("lists" : Str) = some (.dic ls)) ∧ (ls.map (·.1)).Nodup ∧ wfLs 3 ls ∧ rowsN 3 dd = cntN 3 ls ∧ ∀ n, pl n (.dic ls) := by
  obtain ⟨fgs, ls, rfl, fk, fb, hg⟩ := h
  have snd := sh_nd hz.2.1
  have ndl : (ls.map (·.1)).Nodup := by rw [pair_names hg]; exact snd
  have il : ∀ p ∈ s, p.2.2.length ≤ 1 := fun p hp => (hz.2.2 p hp).2.2.1
  have ind : ∀ p ∈ s, (p.2.2.map (·.1)).Nodup := fun p hp => by
    have := il p hp
    match p.2.2, this with
    | [], _ => exact List.nodup_nil
    | [x], _ => simp
  have wf : wfLs 3 ls := fun p hp => by
    obtain ⟨q, hq, _, hgr⟩ := pair_mem hg p hp
    exact wf_gR hgr
  have cnt : rowsN 3 (.dic [("flags", .dic fgs), ("lists", .dic ls)]) = cntN 3 ls := rowsN_eq lk2l
  have plls : ∀ n, pl n (.dic ls) := fun n => by
    cases n with
    | zero => trivial
    | succ n =>
    refine ⟨ndl, fun p hp => ?_⟩
    obtain ⟨q, hq, _, hgr⟩ := pair_mem hg p hp
    exact pl_gR hgr (ind q hq) n
  have plf : ∀ n, pl n (.dic fgs) := fun n => by
    cases n with
    | zero => trivial
    | succ n =>
    refine ⟨by rw [fk]; exact fnd, fun p hp => ?_⟩
    obtain ⟨b, hb⟩ := fb p hp
    rw [hb]
    cases n <;> trivial
  refine ⟨⟨_, fgs, ls, rfl, rfl, lk2f, ?_, fun x hx => ?_, lk2l, ls_ok hz hg, ⟨_, ls, rfl, lk2l, wf⟩, ?_⟩, fun n => ?_, ls, ⟨_, rfl, lk2l⟩, ndl, wf, cnt, plls⟩
  · rw [perm.length_eq, ← fk, List.length_map]
  · have : x ∈ fgs.map (·.1) := by rw [fk]; exact perm.mem_iff.mp hx
    obtain ⟨p, hp, rfl⟩ := List.mem_map.mp this
    obtain ⟨b, hb⟩ := fb p hp
    exact ⟨b, lk_of_mem (by rw [fk]; exact fnd) (by rw [← hb]; exact hp)⟩
  · rw [cnt]
    have h1 := sum_le (f := fun p : Str × D => rowsL 2 p.2) (b := bnd 2) (l := ls) fun p hp => by
      obtain ⟨q, hq, _, hgr⟩ := pair_mem hg p hp
      exact bnd_gR hgr (il q hq)
    have h2 : (ls.length : Int) ≤ 2 := by rw [pair_len hg]; have := hz.1; omega
    have h3 := mul_le h2 (bnd0 2)
    have h4 : bnd 2 = 42 := by decide
    rw [h4] at h1 h3
    show (ls.map fun p => rowsL 2 p.2).sum ≤ 300
    omega
  · cases n with
    | zero => trivial
    | succ n =>
    refine ⟨?_, fun p hp => ?_⟩
    · have : (([("flags", .dic fgs), ("lists", .dic ls)] : List (Str × D)).map (·.1)) = (["flags", "lists"] : List Str) := rfl
      rw [this]; decide +kernel
    · rcases List.mem_cons.mp hp with rfl | hp
      · exact plf n
      · rw [List.mem_singleton.mp hp]; exact plls n
end Pk

namespace Pk
open PySem PySem.Spec PyProof.Rows L2 Ssb
open Evl (Ex Ev EvT EvL EvA EvU)
section
variable {X : Cx} {nm : Str} {k j : Nat} {ps : List Str} {sp : Sp} {f : Addr} {fd : FuncData} {p pos : Pos} {e : Expr} {es : List Expr} {t : TA} {C : Addr}
theorem pmk (G : Mt X.prog X.w X.K X.mg X.base C "__init__" k ps sp f fd) (h1 : PySem.W.makesIn X.K C = true) (h2 : PySem.W.keepIn X.K (.ref C) = true) (h3 : X.mg nm = some (.ref C)) (hr : Room j X.A) (ha : PA X (e :: es) t) (hj : k + 1 ≤ j := by first | decide | omega) (hg : Gl X nm := by rfl) (hdb : (nm == ("__debug__" : Str)) = false := by decide)
    (he : starEach (e :: es) X.env = (false, eval e X.env) :: starEach es X.env := by rfl) (hpl : (backTo pos (starEach es X.env)).any (·.1) = false := by rfl) : PE X (.Call (.Name nm p) (e :: es) [] pos) (tMake C sp [] E0 t) :=
  pe_make ⟨h1, G.mt.at_, G.mt.fn, h2⟩ G.ok (hr.mono hj) hg h3 G.bd .nil pass0 ha hdb he hpl
end
theorem two_cases {l : List (Str × D)} {a b : Str} {x y : D} (ne : a ≠ b) (h2 : l.length = 2) (ha : l.lookup a = some x) (hb : l.lookup b = some y) : l = [(a, x), (b, y)] ∨ l = [(b, y), (a, x)] := by
  match l, h2 with
  | [(j, u), (k, v)], _ =>
    rw [lk_cons] at ha hb
    by_cases c1 : a = j
    · rw [if_pos c1] at ha
      cases ha
      have c2 : ¬ b = j := fun e => ne (c1.trans e.symm)
      rw [if_neg c2, lk_cons] at hb
      by_cases c3 : b = k
      · rw [if_pos c3] at hb
        cases hb
        exact .inl (by rw [c1, c3])
      · rw [if_neg c3] at hb; cases hb
    · rw [if_neg c1, lk_cons] at ha
      by_cases c3 : a = k
      · rw [if_pos c3] at ha
        cases ha
        by_cases c2 : b = j
        · rw [if_pos c2] at hb; cases hb
          exact .inr (by rw [c2, c3])
        · rw [if_neg c2, lk_cons] at hb
          by_cases c4 : b = k
          · exact absurd (c3.trans c4.symm) ne
          · rw [if_neg c4] at hb; cases hb
      · rw [if_neg c3] at ha; cases ha
theorem kn_two {l : List (Str × D)} {x y : D} (h2 : l.length = 2) (ha : l.lookup ("fields" : Str) = some x) (hb : l.lookup ("inner" : Str) = some y) (hx : ∀ n, kn n x) (hy : ∀ n, kn n y) : ∀ n, kn n (.dic l)
  | 0 => trivial
  | n + 1 => by
    rcases two_cases nFI h2 ha hb with rfl | rfl
    · refine ⟨?_, fun p hp => ?_⟩
      · show ((["fields", "inner"] : List Str)).Nodup
        decide +kernel
      · rcases List.mem_cons.mp hp with rfl | hp
        · exact hx n
        · rw [List.mem_singleton.mp hp]; exact hy n
    · refine ⟨?_, fun p hp => ?_⟩
      · show ((["inner", "fields"] : List Str)).Nodup
        decide +kernel
      · rcases List.mem_cons.mp hp with rfl | hp
        · exact hy n
        · rw [List.mem_singleton.mp hp]; exact hx n
theorem kn_flD {f : Fl} (h : okFl f) : ∀ n, kn n (flD f)
  | 0 => trivial
  | n + 1 => by
    refine ⟨?_, fun p hp => ?_⟩
    · rw [List.map_map]; exact h.2.1
    · obtain ⟨q, _, rfl⟩ := List.mem_map.mp hp
      cases n with
      | zero => trivial
      | succ n =>
        intro x hx
        obtain ⟨s, _, rfl⟩ := List.mem_map.mp hx
        cases n <;> trivial
theorem kn_sh {d : D} {s : Sh} (h : shD d s) (hz : okSh s) : ∀ n, kn n d
  | 0 => by cases d <;> trivial
  | n + 1 => by
    obtain ⟨l, rfl, pr⟩ := h
    refine ⟨by rw [pair_names pr]; exact sh_nd hz.2.1, fun p hp => ?_⟩
    obtain ⟨q, hq, _, l', e, ep, l2, lf, li, pe⟩ := pair_mem pr p hp
    obtain ⟨_, okf, i1, iok⟩ := hz.2.2 q hq
    rw [ep]
    refine kn_two l2 lf li (kn_flD okf) (fun n => ?_) n
    cases n with
    | zero => trivial
    | succ n =>
    refine ⟨?_, fun p hp => ?_⟩
    · rw [pair_names pe]
      match q.2.2, i1 with
      | [], _ => exact List.nodup_nil
      | [x], _ => simp
    · obtain ⟨q2, hq2, _, l3, ep, l32, l3f, l3i⟩ := pair_mem pe p hp
      rw [ep]
      refine kn_two l32 l3f l3i (kn_flD (iok q2 hq2).2) (fun n => ?_) n
      cases n with
      | zero => trivial
      | succ n => exact ⟨List.nodup_nil, fun p hp => nomatch hp⟩
theorem main_ok {l : PySem.W.OpenLaw} {w : World} {K : PySem.W.Frag} {mg : Str → Option Value} {fa C_Shape : Addr} (T : Txt K mg C_Shape) (R : Prg K mg C_Shape) (hfa : mg "law" = some (.ref fa)) :
    ∃ fd : FuncData, (∀ (s : Shared) (v : Value), BindsTo s fd ⟨[v], []⟩ [("_law_script", v)]) ∧ ∀ base : Heap, K.In base → base.Ns mainGlobals mg → FnOk l.prog w K mg base CX0 60 fa fd ["_law_script"] (spLaw K) := by
  obtain ⟨f, fd, at_, F, kp⟩ := R.law
  have e := hfa.symm.trans at_
  cases e
  obtain ⟨oc, od, kV, doc, pm, an, cdv0, ct, osl, rfl, lk, hcd⟩ := F.ex
  refine ⟨PySem.W.fnOf "law" "law" (defArgs s_law) (defBody s_law) (defScope s_law) .none kV doc pm an cdv0 ct, fun s v => .of_eq rfl, fun base _ _ => ?_⟩
  obtain ⟨_, _, G__law_stream⟩ := ok__law_stream (P := l.prog) (w := w) (base := base) T R
  obtain ⟨_, _, G__law_draw⟩ := ok__law_draw (P := l.prog) (w := w) (base := base) T R
  obtain ⟨_, _, G__law_names⟩ := ok__law_names (P := l.prog) (w := w) (base := base) T R
  obtain ⟨_, _, G__law_lists⟩ := ok__law_lists (P := l.prog) (w := w) (base := base) T R
  obtain ⟨_, _, G__law_data⟩ := ok__law_data (P := l.prog) (w := w) (base := base) T R
  obtain ⟨_, _, G__law_edges⟩ := ok__law_edges (P := l.prog) (w := w) (base := base) T R (ok__law_edges T R (ok__law_edges T R (ok__law_edges0 T R)))
  obtain ⟨_, _, G__law_copy⟩ := ok__law_copy (P := l.prog) (w := w) (base := base) T R 9
  obtain ⟨_, _, G__law_turned⟩ := ok__law_turned (P := l.prog) (w := w) (base := base) T R 9
  obtain ⟨_, _, G__law_same⟩ := ok__law_same (P := l.prog) (w := w) (base := base) T R 9
  obtain ⟨_, _, G__law_count⟩ := ok__law_count (P := l.prog) (w := w) (base := base) T R 3
  obtain ⟨_, _, G_rows_in⟩ := ok_rows_in (P := l.prog) (w := w) (base := base) T R 3
  obtain ⟨_, _, G_check⟩ := ok_check (P := l.prog) (w := w) (base := base) T R
  obtain ⟨_, _, G_Shape⟩ := ok_Shape_init (P := l.prog) (w := w) (base := base) T R
  refine F.ok sc_law (fun vs H Q E h => ?_) (fun cdv A outer s H vs Q E hr h => ?_)
  · obtain ⟨a, ns, rfl, _⟩ := h; rfl
  · obtain ⟨a, ns, rfl, hs, _, k⟩ := h
    refine ⟨_, (pss_cons (ps_set (i := 1) sc_law.nd rfl (Or.inl rfl) (pcl G__law_stream hr (pa_cons (pv 0) pa_nil)))
  (pss_cons (ps_set (i := 2) sc_law.nd rfl (Or.inl rfl) (pcl G__law_draw hr (pa_cons (pv 1) (pa_cons pe_int pa_nil))))
  (pss_cons (ps_set (i := 3) sc_law.nd rfl (Or.inl rfl) (pcl G__law_draw hr (pa_cons (pv 1) (pa_cons pe_int pa_nil))))
  (pss_cons (ps_set (i := 4) sc_law.nd rfl (Or.inl rfl) (pcl G__law_names hr (pa_cons (pv 1) (pa_cons (pcl G__law_draw hr (pa_cons (pv 1) (pa_cons pe_int pa_nil))) (pa_cons (pe_lst pa_nil) pa_nil)))))
  (pss_cons (ps_set (i := 5) sc_law.nd rfl (Or.inl rfl) (pcl G__law_lists hr (pa_cons (pv 1) (pa_cons pe_int pa_nil))))
  (pss_cons (ps_set (i := 6) sc_law.nd rfl (Or.inl rfl) (pcl G__law_data hr (pa_cons (pv 1) (pa_cons (pv 4) (pa_cons (pv 5) (pa_cons pe_int pa_nil))))))
  (Evl.pss_cut (ps_if (pt_cmpR op_lt (pv 3) pe_int (nomark _)) (pss_one (ps_expr (pcl G__law_edges hr (pa_cons (pe_dget (hu_of hr) (pv 6) pe_str (fun _ _ => rfl)) (pa_cons (pe_op op_mul pe_int (pv 3)) pa_nil))))) pss_nil)
  (pss_cons (ps_set (i := 7) sc_law.nd rfl (Or.inl rfl) (pmk G_Shape T.mk_Shape T.kp_Shape T.at_Shape hr (pa_cons (pe_callTy (r := rListA K) call_list_of (by rfl) T.list (by decide +kernel) (pa_cons (pv 4) pa_nil)) (pa_cons (pcl G__law_copy hr (pa_cons (pv 5) pa_nil)) pa_nil))))
  (pss_cons (ps_set (i := 8) sc_law.nd rfl (Or.inl rfl) (pcl G__law_copy hr (pa_cons (pv 6) pa_nil)))
  (Evl.pss_cut (ps_if (pt_cmpR op_eq (pv 2) pe_int (nomark _)) (pss_one (ps_set (i := 8) sc_law.nd rfl (Or.inl rfl) (pcl G__law_turned hr (pa_cons (pv 8) pa_nil)))) pss_nil)
  (pss_cons (ps_if (PW.pt (pw_or (pt_cmpR op_notN (pcl G_check hr (pa_cons (pv 7) (pa_cons (pv 8) pa_nil))) pe_non (nomark _)) (pw_or1 (pt_not (pt_val (pcl G__law_same hr (pa_cons (pcl G_rows_in hr (pa_cons (pv 8) pa_nil)) (pa_cons (pcl G__law_count hr (pa_cons (pe_dget (hu_of hr) (pv 6) pe_str (fun _ _ => rfl)) pa_nil)) pa_nil)))))))) pss_never pss_nil)
  (pss_cons (ps_if (PW.pt (pw_or (pt_not (pt_val (pcl G__law_same hr (pa_cons (pv 8) (pa_cons (pv 6) pa_nil))))) (pw_or1 (pt_cmpR op_notN (pcl G_check hr (pa_cons (pv 7) (pa_cons (pv 8) pa_nil))) pe_non (nomark _))))) pss_never pss_nil)
  (pss_one (ps_ret (pe_and (pcl G__law_same hr (pa_cons (pcl G_rows_in hr (pa_cons (pv 8) pa_nil)) (pa_cons (pcl G__law_count hr (pa_cons (pe_dget (hu_of hr) (pv 6) pe_str (fun _ _ => rfl)) pa_nil)) pa_nil))) (pe_one (pcl G__law_same hr (pa_cons (pv 8) (pa_cons (pv 6) pa_nil))))))))))))))))))), ?_⟩
    refine ⟨_, rfl, a, ns, rfl, hs, fun H1 S c st => ?_⟩
    refine ⟨_, rfl, S, c, 2, rfl, st, by decide, by decide, fun H2 tn m2 _ _ => ?_⟩
    refine ⟨_, rfl, S, c, 3, rfl, m2.z, by decide, by decide, fun H3 ed m3 ed0 ed3 => ?_⟩
    refine ⟨_, rfl, _, rfl, S, c, 3, rfl, m3.z, by decide, by decide, fun H4 nf m4 f0 f1 => ⟨(by show 0 ≤ sizeLine; decide), fun t0 ht0 => ⟨S, c, t0, nf, rfl, (Mv.new m4.z ht0).z, f0, by omega, upd_same, fun H5 qf fl m5 hqf hqf5 lf flW fnd => ?_⟩⟩⟩
    refine ⟨_, rfl, S, c, rfl, m5.z, fun H6 ql dl z m6 hl hsh okS => ?_⟩
    have fS := Mv.strs m5.z hqf5
    have hqf6 := m6.fr qf _ fS.1 fS.2 hqf5
    have nS5 : ¬ H5 S = none := fun h => (m5.z.someS h).1 rfl
    have nc5 : ¬ H5 c = none := fun h => (m5.z.someS h).2 rfl
    have fl2 : fl.length ≤ 2 := by omega
    refine ⟨_, rfl, _, rfl, _, rfl, S, c, qf, .ref ql, 7, _, dl, fl, z, rfl, m6.z, hqf6, fnd, fl2, hl, nS5, nc5, hsh, okS, fun H7 qd dd m7 hd gd => ?_⟩
    have nS6 : ¬ H6 S = none := fun h => (m6.z.someS h).1 rfl
    have snd := sh_nd okS.2.1
    have il : ∀ p ∈ z, p.2.2.length ≤ 1 := fun p hp => (okS.2.2 p hp).2.2.1
    refine Evl.q_cut (M := fun σ' Hx => ∃ dd' : D, σ' = [some (.ref a), some (.ref S), some (.int tn), some (.int ed), some (.ref qf), some (.ref ql), some (.ref qd), none, none] ∧ (∀ b o, ¬ H6 b = none → H7 b = some o → Hx b = some o) ∧ RepT Hx 9 (fun b => H6 b = none) dd' (.ref qd) ∧ gD fl z dd') ?_ ?_
    · refine Evl.s_when (Evl.et_test (Evl.ev_op (Evl.ev_var rfl) Evl.ev_c Evl.rv_I0)) (fun hb H8 e8 => ?_) (fun _ H8 e8 => ⟨dd, rfl, fun b o _ h => e8 _ _ h, rt_ex e8 hd, gd⟩)
      have ed2 : ed < 2 := of_decide_eq_true hb
      obtain ⟨fgs, ls, rfl, fk, fb, hg⟩ := gd
      obtain ⟨da, des, ix, e, Sd, hda, _, ek, tr⟩ := rt_ex e8 hd
      cases e
      obtain ⟨vf, vl, rfl⟩ : ∃ vf vl, des = [((Sum.inr "flags" : Key), vf), (Sum.inr "lists", vl)] := by
        have lw : des.length = 2 := by have := congrArg List.length ek; rw [List.length_map] at this; exact this
        match des, lw, ek with
        | [a, b], _, ek =>
          simp only [List.map_cons, List.map_nil, List.cons.injEq, and_true] at ek
          obtain ⟨a1, a2⟩ := a
          obtain ⟨b1, b2⟩ := b
          obtain ⟨h1, h2⟩ := ek
          have h1 : a1 = (Sum.inr "flags" : Key) := h1
          have h2 : b1 = (Sum.inr "lists" : Key) := h2
          subst h1; subst h2
          exact ⟨a2, b2, rfl⟩
      have vlT := tr.2 1 (.dic ls) vl rfl rfl
      have vfT := tr.2 0 (.dic fgs) vf rfl rfl
      have lkv : valV [((Sum.inr "flags" : Key), vf), (Sum.inr "lists", vl)] (Sum.inr "lists" : Key) = some vl := by
        rw [vV_cons, if_neg (fun e => nGL (Sum.inr.inj e)), vV_cons, if_pos rfl]
      refine ⟨_, rfl, qd, vl, rfl, .inl ⟨_, Sum.inr "lists", .inl hda, rfl, lkv.symm⟩, _, rfl, _, _, rfl, rfl, .inl ⟨by decide, by decide⟩, vl, 1000000 * ed, 8, _, ls, z, rfl, vlT, hg, snd, il, by omega, by omega, fun H9 ls' fr hT hg' => ?_⟩
      have fr2 : ∀ b o, ¬ ((H6 b = none ∧ b ≠ qd) ∧ ix b = 1) → H8 b = some o → H9 b = some o := fr
      refine ⟨.dic [("flags", .dic fgs), ("lists", .dic ls')], rfl, fun b o nb h => fr2 b o (fun z => nb z.1.1) (e8 _ _ h), ?_, fgs, ls', rfl, fk, fb, hg'⟩
      refine ⟨qd, _, ix, rfl, Sd, fr2 qd _ (fun z => z.1.2 rfl) hda, (by show 2 ≤ 100000; decide), rfl, rfl, fun t dx x h1 h2 => ?_⟩
      match t, h1, h2 with
      | 0, h1, h2 => cases h1; cases h2; exact rt_to (fun b o hb h => fr2 b o (fun z => absurd (hb.2.symm.trans z.2) (by decide)) h) vfT
      | 1, h1, h2 => cases h1; cases h2; exact hT
      | t + 2, h1, h2 => cases h1
    rintro σ' H8 ⟨dd', rfl, fr8, hd8, gd8⟩
    clear hd gd dd
    have m67 : ∀ b o, b ≠ S → b ≠ c → H6 b = some o → H8 b = some o := fun b o b1 b2 h => fr8 b o (by rw [h]; exact fun z => nomatch z) (m7.fr b o b1 b2 h)
    have hqf8 := m67 qf _ fS.1 fS.2 hqf6
    have hl8 : Rep H8 9 (fun b => H5 b = none) dl (.ref ql) := by
      obtain ⟨_, k0, cs0, hS6, hc6, _⟩ := m6.z
      refine rep_up (rep_up (rep_to (fun b o hb hp => m67 b o (fun e => ?_) (fun e => ?_) hb) hl))
      · rw [e] at hp hb
        rcases hp with hp | ⟨xs, rfl⟩
        · exact nS5 hp
        · rw [hS6] at hb; cases hb
      · rw [e] at hp hb
        rcases hp with hp | ⟨xs, rfl⟩
        · exact nc5 hp
        · rw [hc6] at hb; cases hb
    -- the shape
    refine ⟨_, rfl, qf, _, rfl, .inl (Evl.sq_of hqf8), fun q2 hq2 => ⟨_, rfl, .ref ql, _, dl, rfl, rep_ex (Ex.new hq2) hl8, kn_sh hsh okS 9, fun H10 vc e10 hc => fun x dx hx hdx nxd => ?_⟩⟩
    have e8a : Ex H8 H10 := (Ex.new hq2).trans e10
    have hq10 : H10 q2 = some (.lst (fl.map V.str)) := e10 _ _ upd_same
    have nq : q2 ≠ x ∧ q2 ≠ dx := ⟨fun e => (by rw [e, hx] at hq10; cases hq10), fun e => (by rw [e, hdx] at hq10; cases hq10)⟩
    have old : ∀ b o, H10 b = some o → (upd (upd H10 dx (.own x)) x (.ins C_Shape dx [])) b = some o := fun b o h => by
      have n1 : b ≠ x := fun e => by rw [e, hx] at h; cases h
      have n2 : b ≠ dx := fun e => by rw [e, hdx] at h; cases h
      rw [upd_ne n1, upd_ne n2]; exact h
    refine ⟨x, dx, q2, fl, vc, 9, fun b => (upd H8 q2 (.lst (fl.map V.str))) b = none ∧ H10 b ≠ none, dl, z, rfl, upd_same, old _ _ hq10, fl2, flW, fnd, rep_ex old (rep_dom hc), hsh, okS, fun h => h.2 hx, fun H11 fl' fr11 permf so hS11 => ⟨rfl, ?_⟩⟩
    have e811 : Ex H8 H11 := fun b o h => by
      have h10 := e8a _ _ h
      exact fr11 b o (fun e => by rw [e, hx] at h10; cases h10) (old _ _ h10)
    have fl2' : fl'.length ≤ 2 := by rw [permf.length_eq]; exact fl2
    have fnd' : fl'.Nodup := permf.nodup_iff.mpr fnd
    obtain ⟨okd, pld, ls, ⟨ld, ed', hll⟩, lnd, wfl, cnt, plls⟩ := gD_ok okS fnd permf gd8
    have rep8 := rep_dom (rt_rep hd8)
    have rep11 := rep_ex e811 rep8
    -- the copy
    refine ⟨_, rfl, .ref qd, _, dd', rfl, rep11, pl_kn (pld 9), fun H12 vp e12 hp => ?_⟩
    refine Evl.q_cut (M := fun σ' Hx => ∃ (vp : V) (dp : D), σ' = [some (.ref a), some (.ref S), some (.int tn), some (.int ed), some (.ref qf), some (.ref ql), some (.ref qd), some (.ref x), some vp] ∧ Ex H11 Hx ∧ Rep Hx 9 (fun b => H11 b = none) dp vp ∧ simD 9 dp dd') ?_ ?_
    · refine Evl.s_when (Evl.et_test (Evl.ev_op (Evl.ev_var rfl) Evl.ev_c (Evl.rv_eq rfl))) (fun _ H13 e13 => ?_) (fun _ H13 e13 => ⟨vp, dd', rfl, e12.trans e13, rep_ex e13 hp, self_sim rep8 (pld 9)⟩)
      exact ⟨_, rfl, vp, _, dd', rfl, rep_ex e13 hp, pld 9, fun H14 vt e14 ht => ⟨vt, turn 9 dd', rfl, e12.trans (e13.trans e14), rep_S (fun b hb => Evl.fresh_back (e12.trans e13) hb) ht, turn_sim rep8 (pld 9)⟩⟩
    rintro σ' H13 ⟨vp, dp, rfl, e13, hp13, sim⟩
    clear hp e12
    have okp := okD_sim sim okd
    have wfp := wf_sim sim (show wfR 3 dd' by obtain ⟨_, _, _, rfl, _, _, _, _, _, _, wf, _⟩ := okd; exact wf)
    have dis : ∀ b, H11 b = none → ¬ (H6 b = none ∧ H8 b ≠ none) := fun b h1 h2 => h2.2 (Evl.fresh_back e811 h1)
    -- three questions, at any later heap
    have ask1 : ∀ {σ : L2.St} {Hx : Hp} {ta : TA}, Ex H13 Hx → EvA ta σ Hx [.ref x, vp] → Ev (tCall (spCk C_Shape) [] E0 ta) σ Hx .non := fun {σ Hx ta} ex h => ev_fn h fun H14 e14 Q' q' => ⟨x, vp, 9, _, dp, fl', z, _, rfl, hS11.ex (e13.trans (ex.trans e14)), fl2', fnd', okS, rep_ex (ex.trans e14) hp13, okp, q'⟩
    have ask2 : ∀ {σ : L2.St} {Hx : Hp} {ta : TA}, Ex H13 Hx → EvA ta σ Hx [vp, .ref qd] → Ev (tCall (spSame 9) [] E0 ta) σ Hx (.bl true) := fun {σ Hx ta} ex h => ev_fn h fun H14 e14 Q' q' => ⟨vp, .ref qd, _, _, dp, dd', rfl, rep_ex (ex.trans e14) hp13, rep_ex (e13.trans (ex.trans e14)) rep11, dis, sim_same sim, q'⟩
    have ask3 : ∀ {σ : L2.St} {Hx : Hp} {ta tb : TE}, Ex H13 Hx → Ev ta σ Hx vp → Ev tb σ Hx (.ref qd) → Ev (tCall (spSame 9) [] E0 (tCons (tCall (spRi 3) [] E0 (tCons ta tNil)) (tCons (tCall (spCnt 3) [] E0 (tCons (tDGet tb (tC (.str "lists"))) tNil)) tNil))) σ Hx (.bl true) := fun {σ Hx ta tb} ex ha hb => by
      refine ev_fn (Evl.ea_cons (ev_fn (z := .int (rowsN 3 dp)) (Evl.ea_cons ha Evl.ea_nil) fun H14 e14 Q' q' => ⟨vp, 9, _, dp, rfl, rep_ex (ex.trans e14) hp13, wfp.1, q'⟩) (Evl.ea_cons (x := .int (cntN 3 ls)) ?cv Evl.ea_nil)) fun H14 e14 Q' q' => ⟨_, _, fun _ => False, fun _ => False, .int (rowsN 3 dp), .int (cntN 3 ls), rfl, rfl, rfl, fun _ h => h.elim, ?sm, q'⟩
      case cv =>
        have rD := rep_ex (e13.trans ex) rep11
        rw [ed'] at rD
        obtain ⟨da, des, e, _, hda, _, pr⟩ := rD
        cases e
        obtain ⟨vl, hvl, hrl⟩ := rep_entry pr hll
        exact ev_fn (Evl.ea_cons (ev_get hb Evl.ev_c (.inl hda) hvl) Evl.ea_nil) fun H14 e14 Q' q' => ⟨vl, 8, _, ls, rfl, rep_ex e14 hrl, lnd, pl_kn (plls 8), wfl, q'⟩
      case sm =>
        show D.int _ = D.int _
        rw [wfp.2, cnt]
    refine Evl.q_when (b := false) (Evl.et_or (a := false) (b := false) (Evl.et_is (Evl.et_test (Evl.ev_op (ask1 (Ex.refl _) (Evl.ea_cons (Evl.ev_var rfl) (Evl.ea_cons (Evl.ev_var rfl) Evl.ea_nil))) Evl.ev_c rv_notN)) rfl) fun _ => Evl.et_not (a := true) (Evl.et_B (ask3 (Ex.refl _) (Evl.ev_var rfl) (Evl.ev_var rfl)))) (fun h => nomatch h) fun _ H14 e14 => ?_
    refine Evl.q_when (b := false) (Evl.et_or (a := false) (b := false) (Evl.et_not (a := true) (Evl.et_B (ask2 e14 (Evl.ea_cons (Evl.ev_var rfl) (Evl.ea_cons (Evl.ev_var rfl) Evl.ea_nil))))) fun _ => Evl.et_is (Evl.et_test (Evl.ev_op (ask1 e14 (Evl.ea_cons (Evl.ev_var rfl) (Evl.ea_cons (Evl.ev_var rfl) Evl.ea_nil))) Evl.ev_c rv_notN)) rfl) (fun h => nomatch h) fun _ H15 e15 => ?_
    exact Evl.s_ret (Evl.ev_is (Evl.ev_andV (a := true) (b := true) (ask3 (e14.trans e15) (Evl.ev_var rfl) (Evl.ev_var rfl)) fun _ => ask2 (e14.trans e15) (Evl.ea_cons (Evl.ev_var rfl) (Evl.ea_cons (Evl.ev_var rfl) Evl.ea_nil))) rfl) fun H16 e16 => k H16
end Pk

namespace Pk
open PySem PySem.Spec PyProof.Rows L2 Ssb
theorem all_mk {l : PySem.W.OpenLaw} {w : World} {K : PySem.W.Frag} {h : Heap} {mg : Str → Option Value} {fa C_Shape : Addr} {t_MOST_ROWS : Tok} {t_GREATEST_ID : Tok} (X : K.In h) (G : h.Ns mainGlobals mg) (hfa : mg "law" = some (.ref fa))
    (aShape : PySem.W.nsIn K mainGlobals "Shape" = some (some (.ref C_Shape)))
    (pgShape : PySem.W.plainGet K C_Shape Str.empty = true)
    (hdShape : PySem.W.hasDictIn K C_Shape = true)
    (poShape : PySem.W.plainOver K C_Shape = true)
    (saShape : PySem.W.findIn K (.ref C_Shape) "__setattr__" = some (some (.builtin "object.__setattr__")))
    (mkShape : PySem.W.makesIn K C_Shape = true)
    (kcShape : PySem.W.keepIn K (.ref C_Shape) = true)
    (nShapeflags : PySem.W.findIn K (.ref C_Shape) "flags" = some none)
    (nShapetable : PySem.W.findIn K (.ref C_Shape) "table" = some none)
    (z_all : PySem.W.nsIn K mainGlobals "all" = some none)
    (z_enumerate : PySem.W.nsIn K mainGlobals "enumerate" = some none)
    (z_int : PySem.W.nsIn K mainGlobals "int" = some none)
    (z_str : PySem.W.nsIn K mainGlobals "str" = some none)
    (z_bool : PySem.W.nsIn K mainGlobals "bool" = some none)
    (z_isinstance : PySem.W.nsIn K mainGlobals "isinstance" = some none)
    (z_len : PySem.W.nsIn K mainGlobals "len" = some none)
    (z_list : PySem.W.nsIn K mainGlobals "list" = some none)
    (z_range : PySem.W.nsIn K mainGlobals "range" = some none)
    (z_reversed : PySem.W.nsIn K mainGlobals "reversed" = some none)
    (z_sorted : PySem.W.nsIn K mainGlobals "sorted" = some none)
    (z_sum : PySem.W.nsIn K mainGlobals "sum" = some none)
    (z_tuple : PySem.W.nsIn K mainGlobals "tuple" = some none)
    (z_set : PySem.W.nsIn K mainGlobals "set" = some none)
    (z_dict : PySem.W.nsIn K mainGlobals "dict" = some none)
    (g_MOST_ROWS : PySem.W.nsIn K mainGlobals "MOST_ROWS" = some (some (.int 300 t_MOST_ROWS)))
    (g_GREATEST_ID : PySem.W.nsIn K mainGlobals "GREATEST_ID" = some (some (.int 1000000 t_GREATEST_ID)))
    (d_is_word : Here K mg "is_word" s_is_word)
    (d_are_words : Here K mg "are_words" s_are_words)
    (d_is_integer : Here K mg "is_integer" s_is_integer)
    (d_has_names : Here K mg "has_names" s_has_names)
    (d_is_named : Here K mg "is_named" s_is_named)
    (d_wrong_part : Here K mg "wrong_part" s_wrong_part)
    (d_are_lists : Here K mg "are_lists" s_are_lists)
    (d_are_list_shapes : Here K mg "are_list_shapes" s_are_list_shapes)
    (d_list_rows : Here K mg "list_rows" s_list_rows)
    (d_are_fields : Here K mg "are_fields" s_are_fields)
    (d_Shape_init : HereM K C_Shape "__init__" "Shape.__init__" s_Shape_init)
    (d_Shape_outer : HereM K C_Shape "outer" "Shape.outer" s_Shape_outer)
    (d_Shape_inner : HereM K C_Shape "inner" "Shape.inner" s_Shape_inner)
    (d_Shape_fields : HereM K C_Shape "fields" "Shape.fields" s_Shape_fields)
    (d_Shape_lists_in : HereM K C_Shape "lists_in" "Shape.lists_in" s_Shape_lists_in)
    (d_Shape_need_list : HereM K C_Shape "need_list" "Shape.need_list" s_Shape_need_list)
    (d_check : Here K mg "check" s_check)
    (d_check_words : Here K mg "check_words" s_check_words)
    (d_is_choice : Here K mg "is_choice" s_is_choice)
    (d_check_lists : Here K mg "check_lists" s_check_lists)
    (d_check_rows : Here K mg "check_rows" s_check_rows)
    (d_check_row : Here K mg "check_row" s_check_row)
    (d_rows_in : Here K mg "rows_in" s_rows_in)
    (d__law_stream : Here K mg "_law_stream" s__law_stream)
    (d__law_draw : Here K mg "_law_draw" s__law_draw)
    (d__law_same : Here K mg "_law_same" s__law_same)
    (d__law_copy : Here K mg "_law_copy" s__law_copy)
    (d__law_turned : Here K mg "_law_turned" s__law_turned)
    (d__law_word : Here K mg "_law_word" s__law_word)
    (d__law_names : Here K mg "_law_names" s__law_names)
    (d__law_fields : Here K mg "_law_fields" s__law_fields)
    (d__law_lists : Here K mg "_law_lists" s__law_lists)
    (d__law_rows : Here K mg "_law_rows" s__law_rows)
    (d__law_data : Here K mg "_law_data" s__law_data)
    (d__law_count : Here K mg "_law_count" s__law_count)
    (d__law_edges : Here K mg "_law_edges" s__law_edges)
    (d_law : Here K mg "law" s_law) :
    ∃ fd : FuncData, (∀ (s : Shared) (v : Value), BindsTo s fd ⟨[v], []⟩ [("_law_script", v)]) ∧ ∀ base : Heap, K.In base → base.Ns mainGlobals mg → FnOk l.prog w K mg base CX0 60 fa fd ["_law_script"] (spLaw K) := by
  have T : Txt K mg C_Shape := { all := PySem.W.mg_none_of X G z_all, enumerate := PySem.W.mg_none_of X G z_enumerate, int := PySem.W.mg_none_of X G z_int, str := PySem.W.mg_none_of X G z_str, bool := PySem.W.mg_none_of X G z_bool, isinstance := PySem.W.mg_none_of X G z_isinstance, len := PySem.W.mg_none_of X G z_len, list := PySem.W.mg_none_of X G z_list, range := PySem.W.mg_none_of X G z_range, reversed := PySem.W.mg_none_of X G z_reversed, sorted := PySem.W.mg_none_of X G z_sorted, sum := PySem.W.mg_none_of X G z_sum, tuple := PySem.W.mg_none_of X G z_tuple, set := PySem.W.mg_none_of X G z_set, dict := PySem.W.mg_none_of X G z_dict, g_MOST_ROWS := ⟨_, PySem.W.mg_of X G g_MOST_ROWS⟩, g_GREATEST_ID := ⟨_, PySem.W.mg_of X G g_GREATEST_ID⟩, cl_Shape := ⟨pgShape, hdShape, poShape, saShape⟩, mk_Shape := mkShape, kp_Shape := kcShape, at_Shape := PySem.W.mg_of X G aShape, no_Shape_flags := nShapeflags, no_Shape_table := nShapetable }
  have R : Prg K mg C_Shape := { is_word := d_is_word, are_words := d_are_words, is_integer := d_is_integer, has_names := d_has_names, is_named := d_is_named, wrong_part := d_wrong_part, are_lists := d_are_lists, are_list_shapes := d_are_list_shapes, list_rows := d_list_rows, are_fields := d_are_fields, Shape_init := d_Shape_init, Shape_outer := d_Shape_outer, Shape_inner := d_Shape_inner, Shape_fields := d_Shape_fields, Shape_lists_in := d_Shape_lists_in, Shape_need_list := d_Shape_need_list, check := d_check, check_words := d_check_words, is_choice := d_is_choice, check_lists := d_check_lists, check_rows := d_check_rows, check_row := d_check_row, rows_in := d_rows_in, _law_stream := d__law_stream, _law_draw := d__law_draw, _law_same := d__law_same, _law_copy := d__law_copy, _law_turned := d__law_turned, _law_word := d__law_word, _law_names := d__law_names, _law_fields := d__law_fields, _law_lists := d__law_lists, _law_rows := d__law_rows, _law_data := d__law_data, _law_count := d__law_count, _law_edges := d__law_edges, law := d_law }
  exact main_ok T R hfa
theorem walk {l : PySem.W.OpenLaw} {q : Program} {loose : List Str} {XP : (Str → Option Value) → Heap → Prop} {YP : World → Heap → Prop} {d : DefRec} {K : Params → PySem.W.Frag} (hn : l.most = some 63) (hdf : d.params.defaults = [])
    (hY : ∀ (w : World) (h : Heap), YP w h → (K w.params).In h)
    (F : ∀ (w : World) (mg : Str → Option Value) (fa : Addr) (h : Heap), (K w.params).In h → h.Ns mainGlobals mg → mg d.name = some (.ref fa) →
      ∃ fd : FuncData, (∀ (s : Shared) (u : Value), BindsTo s fd ⟨[u], []⟩ [("_law_script", u)]) ∧ ∀ base : Heap, (K w.params).In base → base.Ns mainGlobals mg → FnOk l.prog w (K w.params) mg base CX0 60 fa fd ["_law_script"] (spLaw (K w.params))) :
    PySem.W.WalkO q loose XP YP l.row.toRowW d [] (fun f vs => PySem.call f vs) :=
  L2.walk_of (n := 63) (k := 60) (x := "_law_script") (CX := fun _ => CX0) (sp := fun w => spLaw (K w.params)) hn (by decide) hdf ⟨rfl, by decide, by decide⟩ hY F (fun _ _ a ns hl _ hS => ⟨a, ns, rfl, hS, hl, fun _ => rfl⟩) fun _ _ _ _ _ z => z
end Pk
open PySem PySem.W PyProof.Rows
set_option maxRecDepth 100000 in
set_option maxHeartbeats 0 in
theorem PySem.Challenge.cw_statestay_k04_rows_counted_holds : PySem.Challenge.rw_statestay_k04_rows_counted.Holds := by
  w_on; o_law; k_head; (case hw => w_witness2)
  k_fill
  refine Pk.walk (l := PySem.Challenge.rw_statestay_k04_rows_counted) rfl rfl (fun w h Y => PySem.W.kIn_of Y) ?F
  case F =>
    intro w mg fa h KX G hmg
    refine' Pk.all_mk KX G hmg ?aShape ?pgShape ?hdShape ?poShape ?saShape ?mkShape ?kcShape ?nShapeflags ?nShapetable ?z_all ?z_enumerate ?z_int ?z_str ?z_bool ?z_isinstance ?z_len ?z_list ?z_range ?z_reversed ?z_sorted ?z_sum ?z_tuple ?z_set ?z_dict ?g_MOST_ROWS ?g_GREATEST_ID ?d_is_word ?d_are_words ?d_is_integer ?d_has_names ?d_is_named ?d_wrong_part ?d_are_lists ?d_are_list_shapes ?d_list_rows ?d_are_fields ?d_Shape_init ?d_Shape_outer ?d_Shape_inner ?d_Shape_fields ?d_Shape_lists_in ?d_Shape_need_list ?d_check ?d_check_words ?d_is_choice ?d_check_lists ?d_check_rows ?d_check_row ?d_rows_in ?d__law_stream ?d__law_draw ?d__law_same ?d__law_copy ?d__law_turned ?d__law_word ?d__law_names ?d__law_fields ?d__law_lists ?d__law_rows ?d__law_data ?d__law_count ?d__law_edges ?d_law
    (case aShape => k_is)
    (case pgShape => k_is)
    (case hdShape => k_is)
    (case poShape => k_is)
    (case saShape => k_is)
    (case mkShape => k_is)
    (case kcShape => k_is)
    (case nShapeflags => k_is)
    (case nShapetable => k_is)
    (case z_all => k_is)
    (case z_enumerate => k_is)
    (case z_int => k_is)
    (case z_str => k_is)
    (case z_bool => k_is)
    (case z_isinstance => k_is)
    (case z_len => k_is)
    (case z_list => k_is)
    (case z_range => k_is)
    (case z_reversed => k_is)
    (case z_sorted => k_is)
    (case z_sum => k_is)
    (case z_tuple => k_is)
    (case z_set => k_is)
    (case z_dict => k_is)
    (case g_MOST_ROWS => k_is)
    (case g_GREATEST_ID => k_is)
    (case d_is_word => (refine' Pk.here_mk KX G ?a ?l ?c ?k; (case a => k_is); (case l => k_is); (case c => k_is); (case k => k_is)))
    (case d_are_words => (refine' Pk.here_mk KX G ?a ?l ?c ?k; (case a => k_is); (case l => k_is); (case c => k_is); (case k => k_is)))
    (case d_is_integer => (refine' Pk.here_mk KX G ?a ?l ?c ?k; (case a => k_is); (case l => k_is); (case c => k_is); (case k => k_is)))
    (case d_has_names => (refine' Pk.here_mk KX G ?a ?l ?c ?k; (case a => k_is); (case l => k_is); (case c => k_is); (case k => k_is)))
    (case d_is_named => (refine' Pk.here_mk KX G ?a ?l ?c ?k; (case a => k_is); (case l => k_is); (case c => k_is); (case k => k_is)))
    (case d_wrong_part => (refine' Pk.here_mk KX G ?a ?l ?c ?k; (case a => k_is); (case l => k_is); (case c => k_is); (case k => k_is)))
    (case d_are_lists => (refine' Pk.here_mk KX G ?a ?l ?c ?k; (case a => k_is); (case l => k_is); (case c => k_is); (case k => k_is)))
    (case d_are_list_shapes => (refine' Pk.here_mk KX G ?a ?l ?c ?k; (case a => k_is); (case l => k_is); (case c => k_is); (case k => k_is)))
    (case d_list_rows => (refine' Pk.here_mk KX G ?a ?l ?c ?k; (case a => k_is); (case l => k_is); (case c => k_is); (case k => k_is)))
    (case d_are_fields => (refine' Pk.here_mk KX G ?a ?l ?c ?k; (case a => k_is); (case l => k_is); (case c => k_is); (case k => k_is)))
    (case d_Shape_init => (refine' Pk.hereM_mk ?a ?i ?l ?c ?k; (case a => k_is); (case i => k_is); (case l => k_is); (case c => k_is); (case k => k_is)))
    (case d_Shape_outer => (refine' Pk.hereM_mk ?a ?i ?l ?c ?k; (case a => k_is); (case i => k_is); (case l => k_is); (case c => k_is); (case k => k_is)))
    (case d_Shape_inner => (refine' Pk.hereM_mk ?a ?i ?l ?c ?k; (case a => k_is); (case i => k_is); (case l => k_is); (case c => k_is); (case k => k_is)))
    (case d_Shape_fields => (refine' Pk.hereM_mk ?a ?i ?l ?c ?k; (case a => k_is); (case i => k_is); (case l => k_is); (case c => k_is); (case k => k_is)))
    (case d_Shape_lists_in => (refine' Pk.hereM_mk ?a ?i ?l ?c ?k; (case a => k_is); (case i => k_is); (case l => k_is); (case c => k_is); (case k => k_is)))
    (case d_Shape_need_list => (refine' Pk.hereM_mk ?a ?i ?l ?c ?k; (case a => k_is); (case i => k_is); (case l => k_is); (case c => k_is); (case k => k_is)))
    (case d_check => (refine' Pk.here_mk KX G ?a ?l ?c ?k; (case a => k_is); (case l => k_is); (case c => k_is); (case k => k_is)))
    (case d_check_words => (refine' Pk.here_mk KX G ?a ?l ?c ?k; (case a => k_is); (case l => k_is); (case c => k_is); (case k => k_is)))
    (case d_is_choice => (refine' Pk.here_mk KX G ?a ?l ?c ?k; (case a => k_is); (case l => k_is); (case c => k_is); (case k => k_is)))
    (case d_check_lists => (refine' Pk.here_mk KX G ?a ?l ?c ?k; (case a => k_is); (case l => k_is); (case c => k_is); (case k => k_is)))
    (case d_check_rows => (refine' Pk.here_mk KX G ?a ?l ?c ?k; (case a => k_is); (case l => k_is); (case c => k_is); (case k => k_is)))
    (case d_check_row => (refine' Pk.here_mk KX G ?a ?l ?c ?k; (case a => k_is); (case l => k_is); (case c => k_is); (case k => k_is)))
    (case d_rows_in => (refine' Pk.here_mk KX G ?a ?l ?c ?k; (case a => k_is); (case l => k_is); (case c => k_is); (case k => k_is)))
    (case d__law_stream => (refine' Pk.here_mk KX G ?a ?l ?c ?k; (case a => k_is); (case l => k_is); (case c => k_is); (case k => k_is)))
    (case d__law_draw => (refine' Pk.here_mk KX G ?a ?l ?c ?k; (case a => k_is); (case l => k_is); (case c => k_is); (case k => k_is)))
    (case d__law_same => (refine' Pk.here_mk KX G ?a ?l ?c ?k; (case a => k_is); (case l => k_is); (case c => k_is); (case k => k_is)))
    (case d__law_copy => (refine' Pk.here_mk KX G ?a ?l ?c ?k; (case a => k_is); (case l => k_is); (case c => k_is); (case k => k_is)))
    (case d__law_turned => (refine' Pk.here_mk KX G ?a ?l ?c ?k; (case a => k_is); (case l => k_is); (case c => k_is); (case k => k_is)))
    (case d__law_word => (refine' Pk.here_mk KX G ?a ?l ?c ?k; (case a => k_is); (case l => k_is); (case c => k_is); (case k => k_is)))
    (case d__law_names => (refine' Pk.here_mk KX G ?a ?l ?c ?k; (case a => k_is); (case l => k_is); (case c => k_is); (case k => k_is)))
    (case d__law_fields => (refine' Pk.here_mk KX G ?a ?l ?c ?k; (case a => k_is); (case l => k_is); (case c => k_is); (case k => k_is)))
    (case d__law_lists => (refine' Pk.here_mk KX G ?a ?l ?c ?k; (case a => k_is); (case l => k_is); (case c => k_is); (case k => k_is)))
    (case d__law_rows => (refine' Pk.here_mk KX G ?a ?l ?c ?k; (case a => k_is); (case l => k_is); (case c => k_is); (case k => k_is)))
    (case d__law_data => (refine' Pk.here_mk KX G ?a ?l ?c ?k; (case a => k_is); (case l => k_is); (case c => k_is); (case k => k_is)))
    (case d__law_count => (refine' Pk.here_mk KX G ?a ?l ?c ?k; (case a => k_is); (case l => k_is); (case c => k_is); (case k => k_is)))
    (case d__law_edges => (refine' Pk.here_mk KX G ?a ?l ?c ?k; (case a => k_is); (case l => k_is); (case c => k_is); (case k => k_is)))
    (case d_law => (refine' Pk.here_mk KX G ?a ?l ?c ?k; (case a => k_is); (case l => k_is); (case c => k_is); (case k => k_is)))
