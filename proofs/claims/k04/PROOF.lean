import PyProof.Rows.All
import Wide.All
import OpenK.AllK
import Wide.FinOn
import HandS.ForMost
import HandS.Exc
import HandS.TryOnly
import HandS.ExcOwn
import HandS.WordsExc
import HandS.Wide
import HandS.Gcd
import HandS.IsInst
import HandS.EndBits
import HandS.Codes
import HandS.Flow
import HandS.TupAny
import HandS.Defaults
import HandS.Small
import HandS.NoneIn
import HandS.StrMore
import HandS.Style
import HandS.WideBits
import HandS.Replace
import HandS.Zip
import HandS.Walk
import HandS.ExcInit
import HandS.ExcField
import HandS.ExcIs

import HandS.SetTxt0
import HandS.Set
import HandS.SetFor
import HandS.More
import HandS.Strs
import PySem.Challenge.RW_backsheet_k04_forms_checked
set_option Elab.async false
set_option linter.all false
set_option maxRecDepth 100000
set_option exponentiation.threshold 20000
namespace Bs
open PySem L2
/-! ### sets of texts, made of a list; their members in order -/
section
open PySem.Spec PyProof.Rows
variable {P : Program} {w : World} {A : Around} {E : Value → Shared → Prop} {s : Shared}
/-- the table of a payload rises, and its order is that of the texts or led -/
def Wkb (w : World) (D : Froz.SD) : Prop := Ris D.2.2.place.toList ∧ (w.params.followText "set-order" = true ∨ D.2.2.led = true)
theorem wkb_add {D : Froz.SD} (hs : Int) (x : Value) (k : Wkb w D) : Wkb w (Froz.addTx hs x D) := by
  obtain ⟨es, ep, t⟩ := D
  have rise := layNew_ris t es hs x k.1
  have lead := layNew_led t es hs x
  unfold Froz.addTx Froz.tailTx
  dsimp only
  generalize layNew t es hs x = N at rise lead ⊢
  obtain ⟨es', t', wd, gv⟩ := N
  dsimp only at rise lead ⊢
  have both : ∀ t2 : SetTable, t2.place = t'.place → t2.led = t'.led → Wkb w (if (!wd && t2.tooFull) = true then ((relayAll t2 es' (SetTable.grown es'.size)).1, ep + 2, (relayAll t2 es' (SetTable.grown es'.size)).2.1) else (es', ep + 1, t2)) := fun t2 e1 e2 => by
    split
    · exact ⟨relayAll_ris t2 es' _, k.2.imp id fun z => by show (relayAll t2 es' _).2.1.led = true; rw [relayAll_led, e2, lead]; exact z⟩
    · exact ⟨by show Ris t2.place.toList; rw [e1]; exact rise, k.2.imp id fun z => by show t2.led = true; rw [e2, lead]; exact z⟩
  by_cases pl : t'.plain = true
  · rw [if_pos pl]
    exact both _ rfl rfl
  · rw [if_neg pl]
    exact both _ rfl rfl
/-- the set at a holds the texts l, each once -/
def Txts (P : Program) (w : World) (h : Heap) (a : Addr) (l : List Str) : Prop := ∃ D, h.get? a = some (Froz.sObj "set" D) ∧ Froz.TxOk P w D l ∧ Wkb w D ∧ l.Nodup
theorem Txts.at {h h' : Heap} {a : Addr} {l : List Str} (x : Txts P w h a l) (k : ∀ o, h.get? a = some o → h'.get? a = some o) : Txts P w h' a l := by
  obtain ⟨D, ho, r⟩ := x
  exact ⟨D, k _ ho, r⟩
/-- one text more -/
def addOne (l : List Str) (k : Str) : List Str := if k ∈ l then l else k :: l
theorem addOne_mem {l : List Str} {k j : Str} : j ∈ addOne l k ↔ j = k ∨ j ∈ l := by
  unfold addOne
  split
  · rename_i c
    exact ⟨.inr, fun z => z.elim (fun e => e ▸ c) id⟩
  · exact List.mem_cons
theorem addOne_len (l : List Str) (k : Str) : (addOne l k).length ≤ l.length + 1 := by
  unfold addOne
  split
  · exact Nat.le_succ _
  · exact Nat.le_refl _
/-- a text that is there already -/
theorem add_known {a : Addr} {D : Froz.SD} {l : List Str} {k : Str} {u : Tok} {Q : Bool → Shared → Prop} (at0 : s.heap.get? a = some (Froz.sObj "set" D)) (F : Froz.TxOk P w D l) (known : k ∈ l) (few : l.length < scanBound) (done : Q false s) :
    wpAny (model P w) A (setAddHashed a (.str k u) (hashStr w k)) Q E s := by
  obtain ⟨es, ep, t⟩ := D
  have dat : (Froz.sObj "set" (es, ep, t)).data = .set es ep t := rfl
  have size : es.size < scanBound := by rw [show es.size = l.length from F.sz]; exact few
  obtain ⟨e, he, hk⟩ := (F.mem k).mp known
  unfold setAddHashed setAddHashedIn
  refine wpAny_holding (wpAny_bind (wpAny_setState_of at0 dat F.fit ?_))
  dsimp only
  rw [byScan_of (x := .str k u) rfl size F.el, if_pos rfl]
  unfold setAddByScan
  refine wpAny_bind (wpAny_bind (wpAny_rule (wpAny_bind (wpAny_setScan_of (knd := strKind P w) (k := k) (Froz.is_str k u) at0 dat F.fit F.el ?_))))
  cases seek : List.findIdx? (fun e => (strKind P w).is k e.2) es.toList with
  | none =>
    have no := List.findIdx?_eq_none_iff.mp seek e he
    rw [hk] at no
    cases no
  | some j =>
    dsimp only
    exact wpAny_pure (wpAny_pure done)
theorem txts_add {a : Addr} {l : List Str} {k : Str} {u : Tok} {Q : Bool → Shared → Prop} (x : Txts P w s.heap a l) (few : l.length + 1 < scanBound)
    (goal : ∀ b h', Heap.SameBut a s.heap h' → Txts P w h' a (addOne l k) → Q b { s with heap := h' }) : wpAny (model P w) A (setAddHashed a (.str k u) (hashStr w k)) Q E s := by
  obtain ⟨D, at0, F, kb, nd⟩ := x
  by_cases known : k ∈ l
  · refine add_known at0 F known (by omega) (goal false s.heap (Heap.SameBut.refl a s.heap) ⟨D, at0, ?_⟩)
    rw [show addOne l k = l from if_pos known]
    exact ⟨F, kb, nd⟩
  · refine Froz.add_x at0 F known few (goal true _ (Heap.SameBut.update s.heap a _) ⟨_, Froz.get_upd _ at0 rfl, ?_⟩)
    rw [show addOne l k = k :: l from if_neg known]
    exact ⟨Froz.add_ok u F, wkb_add _ _ kb, List.nodup_cons.mpr ⟨known, nd⟩⟩
end
section
open PySem.Spec PyProof.Rows
variable {P : Program} {w : World} {A : Around} {E : Value → Shared → Prop} {s : Shared}
/-- what a set holds behind the first i texts -/
def Held (P : Program) (w : World) (xs : List Str) (i : Nat) (h : Heap) (a : Addr) : Prop := ∃ l, l.length ≤ i ∧ (∀ k, k ∈ l ↔ k ∈ xs.take i) ∧ Txts P w h a l
theorem Held.at {xs : List Str} {i : Nat} {h h' : Heap} {a : Addr} (x : Held P w xs i h a) (k : ∀ o, h.get? a = some o → h'.get? a = some o) : Held P w xs i h' a := by
  obtain ⟨l, e1, e2, e3⟩ := x
  exact ⟨l, e1, e2, e3.at k⟩
theorem fill_txts {I : Addr} {fp wr : List Addr} {G : Array GenState → Array GenState → Prop} {n : Nat} {Pv : Nat → Value → Prop} {St : Nat → Shared → Prop} {R : Result → Shared → Prop}
    (W : WalksS P w A.in1 I fp wr G n Pv St) (a : Addr) (out : a ∉ fp) (xs : List Str) (len : xs.length = n) (few : n + 1 < scanBound) (item : ∀ i v, Pv i v → ∃ k t, xs[i]? = some k ∧ v = .str k t) :
    ∀ (left i : Nat) (s : Shared), i + left = n → St i s → Held P w xs i s.heap a → (∀ s', Moved (a :: wr) G s s' → Held P w xs n s'.heap a → R (.ok (.ret .none)) s') →
      codeAny (model P w) A (.builtin "set.update.loop" ⟨[.ref a, .ref I], []⟩) R s := by
  have outw : a ∉ wr := fun m => out (W.sub _ m)
  have wide : ∀ b ∈ wr, b ∈ a :: wr := fun b m => List.mem_cons_of_mem _ m
  intro left
  induction left with
  | zero =>
    intro i s sum st held fin
    obtain rfl : i = n := by omega
    refine (codeAny_builtin F.entry_set_update_loop ?_); rw [Around.under_plainId (id F.plain_set_update_loop)]
    refine wpAny_bind (show wpAny _ A.in1 (pyNext (.ref I)) _ _ s from W.done s _ _ st fun s' mv => wpAny_pure (fin s' (mv.mono wide) ?_))
    exact held.at fun o e => mv.heap a o outw e
  | succ left ih =>
    intro i s sum st held fin
    have lt : i < n := by omega
    refine (codeAny_builtin F.entry_set_update_loop ?_); rw [Around.under_plainId (id F.plain_set_update_loop)]
    refine wpAny_bind (show wpAny _ A.in1 (pyNext (.ref I)) _ _ s from W.item i s _ _ lt st fun v s1 pv st1 mv => ?_)
    obtain ⟨k, t, hk, rfl⟩ := item i v pv
    obtain ⟨l, few1, same, tx⟩ := held.at (h' := s1.heap) fun o e => mv.heap a o outw e
    refine wpAny_bind (show wpAny _ A.in1 (holding [Value.str k t] (setAdd a (.str k t))) _ _ s1 from wpAny_holding ?_)
    unfold setAdd
    refine wpAny_holding (wpAny_bind ((strKind P w).pyHash (k := k) (strKind_is _ _ _ _) ?_))
    refine txts_add (s := { s1 with toks := s1.toks + 1 }) tx (by omega) fun _ h2 but tx2 => wpAny_pure ⟨plainId_quiet F.plain_set_update_loop _, ?_⟩
    have oth : ∀ b o, b ≠ a → s1.heap.get? b = some o → h2.get? b = some o := fun b o ne e => (but.2 b ne).trans e
    refine ih (i + 1) _ (by omega) (W.frame _ s1 _ _ st1 (Nat.le_succ _) fun b m o e => oth b o (fun z => out (z ▸ m)) e) ⟨_, Nat.le_trans (addOne_len l k) (by omega), fun j => ?_, tx2⟩ fun s3 mv3 held3 => ?_
    · rw [addOne_mem, same, List.take_add_one, hk, List.mem_append, Option.toList_some, List.mem_singleton]
      exact Or.comm
    · exact fin s3 (Moved.trans W.gtrans ((mv.mono wide).then_heap (Nat.le_succ _) fun b o m e => oth b o (fun z => m (z ▸ List.mem_cons_self ..)) e) mv3) held3
end

section
open PySem.Spec PyProof.Rows
variable {P : Program} {w : World} {A : Around} {E : Value → Shared → Prop} {s : Shared}
/-- an empty set as set.__new__ leaves it -/
abbrev bare (w : World) : Obj := { cls := .type "set", dict := none, data := .set #[] 0 (.fresh 0 0 (!w.params.followText "set-order")) }
theorem bare_txts {h : Heap} {a : Addr} (e : h.get? a = some (bare w)) (xs : List Str) : Held P w xs 0 h a := by
  refine ⟨[], Nat.le_refl _, fun k => by rw [List.take_zero], (#[], 0, .fresh 0 0 (!w.params.followText "set-order")), e, Froz.TxOk.nil (by rfl), ⟨List.Pairwise.nil, ?_⟩, List.nodup_nil⟩
  show _ ∨ (!w.params.followText "set-order") = true
  cases w.params.followText "set-order" <;> simp
set_option maxHeartbeats 3200000 in
theorem set_of_list {l : Addr} {items : Array Value} {xs : List Str} {Q : Value → Shared → Prop} (nh : A.handled = none) (isl : s.heap.IsList l items) (txt : StrsAre items.toList xs) (few : xs.length + 1 < scanBound)
    (goal : ∀ h' tk, Held P w xs xs.length h' s.heap.objs.size → (∀ b o, s.heap.get? b = some o → h'.get? b = some o) → Q (.ref s.heap.objs.size) { s with heap := h', toks := tk }) :
    wpAny (model P w) A (call (.type "set") [.ref l]) Q E s := by
  have len : xs.length = items.size := by rw [← StrsAre.len_eq txt, Array.length_toList]
  have item : ∀ (i : Nat) (v : Value), items[i]? = some v → ∃ k t, xs[i]? = some k ∧ v = .str k t := fun i v e => by
    have lt : i < xs.length := by rw [len]; exact (Array.getElem?_eq_some_iff.mp e).1
    obtain ⟨t, z⟩ := SS.strs_at txt i v (by rw [Array.getElem?_toList]; exact e)
    exact ⟨xs[i], t, List.getElem?_eq_getElem lt, by rw [z, List.getD_eq_getElem?_getD, List.getElem?_eq_getElem lt]; rfl⟩
  obtain ⟨c0, c1, c2⟩ := PySem.F.called_set.mro
  have c3 := PySem.F.called_set.made
  have c4 := PySem.F.called_set.sub
  have c5 := PySem.F.called_set.notType
  have c6 := PySem.F.called_set.canCreate
  have c7 := PySem.F.typeCall_set_1 (.ref l)
  refine wpAny_call (codeAny_of_tree (show wpAny _ _ (callAny (.type "set") _) _ _ _ from wpAny_pure ⟨Code.quiet_builtin _ (by decide +kernel), codeAny_builtin PySem.F.entry_type_call ?_⟩))
  rw [Around.under_plain (weight_type_call_type "set" [Value.ref l] []) rfl]
  repeat (any_goals (first | assumption | wp_step))
  refine codeAny_mono (code_set_led1 (P := P) (w := w) (Value.ref l) (E := E) (Q₁ := fun o s1 => o = .ref s.heap.objs.size ∧ s1 = { s with heap := s.heap.push (bare w) }) ⟨rfl, rfl⟩) fun r1 s1 hr => ?_
  cases r1 with
  | error e => exact hr
  | ok fl =>
    cases fl with
    | ret o =>
      obtain ⟨rfl, rfl⟩ := hr
      have new : (s.heap.push (bare w)).get? s.heap.objs.size = some (bare w) := Heap.get?_push_size _ rfl
      have ty : Shared.TypeIs { s with heap := s.heap.push (bare w) } (.ref s.heap.objs.size) "set" := ⟨_, new, rfl⟩
      have d1 := PySem.F.called_set.init.lookup
      have d2 := PySem.F.called_set.init.bind (.ref s.heap.objs.size)
      repeat (any_goals (first | assumption | wp_step))
      refine codeAny_mono (codeAny_call_builtin (R := wants (fun r s2 => r = .none ∧ ∃ h' tk, s2 = { s with heap := h', toks := tk } ∧ Held P w xs xs.length h' s.heap.objs.size ∧ (∀ b o, s.heap.get? b = some o → h'.get? b = some o)) E)
        PySem.F.called_set.init.plain PySem.F.entry_set_init (check_set_init_1 ty ?_)) fun r2 s2 h2 => ?_
      · obtain ⟨⟨oc, od, odat, osl⟩, at0, oc0, nl, od0⟩ := isl
        simp only at oc0 od0
        subst oc0 od0
        have at1 : (s.heap.push (bare w)).get? l = some { cls := .type "list", dict := od, data := .seq items nl, slots := osl } := Heap.get?_push_of_some _ at0
        have e1 := PySem.F.sub_list_set
        have e2 := PySem.F.sub_list_frozenset
        have e3 : (Value.type "list" == Value.type "dict") = false := by decide
        have is1 : (s.heap.push (bare w)).IsList l items := ⟨_, at1, rfl, nl, rfl⟩
        have below : l < s.heap.objs.size := Heap.lt_size at0
        have size1 : (s.heap.push (bare w)).objs.size = s.heap.objs.size + 1 := Heap.size_push ..
        unfold Builtin.«set.__init__» noKeywords Builtin.Frozenset.updateFrom
        generalize keep : pyIter = it0
        wp_walk
        subst keep
        refine wpAny_pyIter_list is1 (wpAny_bind (wpAny_runValue ?_))
        have nh3 : A.in1.in1.in1.handled = none := nh
        have apart : l ≠ (s.heap.push (bare w)).objs.size := by rw [size1]; exact Nat.ne_of_lt (Nat.lt_succ_of_lt below)
        refine fill_txts ((Walks.list nh3 _ l apart items).toS) s.heap.objs.size (fun m => ?_) xs len (by omega) item items.size 0 _ (Nat.zero_add _) ⟨⟨_, Heap.get?_push_size _ rfl, rfl, rfl⟩, (is1.push _)⟩ ?h0 ?hR
        · rcases List.mem_cons.mp m with z | z
          · rw [size1] at z
            exact absurd z (Nat.ne_of_lt (Nat.lt_succ_self _))
          · exact absurd (List.mem_singleton.mp z) (Nat.ne_of_gt below)
        case h0 => exact bare_txts (Heap.get?_push_of_some _ new) xs
        case hR =>
          intro s3 mv held
          obtain ⟨h3, g3, d3, t3, o3⟩ := s3
          obtain rfl : g3 = s.gens := mv.gens
          obtain rfl : d3 = s.drawn := mv.drawn
          obtain rfl : o3 = s.os := mv.os
          refine wpAny_pure (show wpAny _ _ (ret Value.none) _ _ _ from wpAny_pure ⟨rfl, h3, t3, rfl, by rw [len]; exact held, fun b o e => ?_⟩)
          have bl : b < s.heap.objs.size := Heap.lt_size e
          refine mv.heap b o (fun m => ?_) (Heap.get?_push_of_some _ (Heap.get?_push_of_some _ e))
          rcases List.mem_cons.mp m with z | z
          · exact absurd z (Nat.ne_of_lt bl)
          · have z2 := List.mem_singleton.mp z
            rw [size1] at z2
            exact absurd z2 (Nat.ne_of_lt (Nat.lt_succ_of_lt bl))
      · cases r2 with
        | error e => exact h2
        | ok f2 =>
          cases f2 with
          | ret v2 =>
            obtain ⟨rfl, h3, t3, rfl, held, kept⟩ := h2
            repeat (any_goals (first | assumption | wp_step))
            exact goal _ _ held kept
          | _ => exact h2.elim
    | _ => exact hr.elim
end

section
open PySem.Spec PyProof.Rows
/-- the set of texts at a: each of xs, nothing else -/
def SetT (P : Program) (w : World) (a : Addr) (xs : List Str) : HO := .ext fun h => Held P w xs xs.length h a
theorem setT_new {P : Program} {w : World} {H : Hp} {h : Heap} {a : Addr} {xs : List Str} (x : Held P w xs xs.length h a) : ObjOk P w H h a (SetT P w a xs) := by
  obtain ⟨l, _, _, D, at0, _⟩ := id x
  exact ⟨x, ⟨_, at0⟩, fun h1 h2 p k => p.at k⟩
theorem perm_rest {α : Type} [BEq α] [LawfulBEq α] : ∀ {l ks : List α}, l.Nodup → (∀ k, k ∈ l → k ∈ ks) → ∃ r, ks.Perm (l ++ r)
  | [], ks, _, _ => ⟨ks, List.Perm.refl _⟩
  | x :: l, ks, nd, inn => by
    obtain ⟨n1, n2⟩ := List.nodup_cons.mp nd
    obtain ⟨r, p⟩ := perm_rest (ks := ks.erase x) n2 fun k hk => (List.mem_erase_of_ne (fun e => n1 (by rw [← e]; exact hk))).mpr (inn k (List.mem_cons_of_mem _ hk))
    exact ⟨r, (List.perm_cons_erase (inn x (List.mem_cons_self ..))).trans (p.cons x)⟩
theorem all_txt : ∀ (vs : List Value) (l : List Str), (∀ v ∈ vs, ∃ k u, v = Value.str k u) → (∀ k ∈ l, ∃ u, Value.str k u ∈ vs) → ∃ ks, StrsAre vs ks ∧ ∀ k, k ∈ l → k ∈ ks := fun vs l all inn => by
  have key : ∀ vs : List Value, (∀ v ∈ vs, ∃ k u, v = Value.str k u) → ∃ ks, StrsAre vs ks ∧ ∀ k u, Value.str k u ∈ vs → k ∈ ks := by
    intro vs
    induction vs with
    | nil => exact fun _ => ⟨[], .nil, fun k u m => by cases m⟩
    | cons v vs ih =>
      intro all
      obtain ⟨ks, t, m⟩ := ih fun v hv => all v (List.mem_cons_of_mem _ hv)
      obtain ⟨k, u, rfl⟩ := all v (List.mem_cons_self ..)
      refine ⟨k :: ks, .cons k u t, fun j u2 mj => ?_⟩
      rcases List.mem_cons.mp mj with z | z
      · injection z with z1
        rw [z1]
        exact List.mem_cons_self ..
      · exact List.mem_cons_of_mem _ (m j u2 z)
  obtain ⟨ks, t, m⟩ := key vs all
  exact ⟨ks, t, fun k hk => by
    obtain ⟨u, z⟩ := inn k hk
    exact m k u z⟩
variable {X : Cx}
/-- set(a list of texts) -/
def rSetTxt (K : PySem.W.Frag) (P : Program) (w : World) : List V → Hp → VK → Prop := fun vs H Q => ∃ (a : Addr) (xs : List Str), vs = [.ref a] ∧ SqL K H a (xs.map V.str) ∧ xs.length < 1000 ∧ ∀ p, H p = none → Q (.ref p) (upd H p (SetT P w p xs))
theorem cr_setTxt (calm : X.calm = true) : CallR X (.type "set") (rSetTxt X.K X.prog X.w) := by
  intro pins s σ H vs us Q I r q
  obtain ⟨a, xs, rfl, hs, few, q⟩ := q
  rw [Vals.ref1 r]
  obtain ⟨its, rv, pl, _⟩ := I.list hs
  refine set_of_list (I.ok.hd calm) pl.isList (by simpa using strsAre_of rv) (Nat.lt_of_lt_of_le (Nat.succ_lt_succ few) (by unfold scanBound; decide)) fun h' tk held kept => ?_
  exact ⟨.ref _, _, I.laid (t' := tk) kept (Nat.le_refl _) (setT_new held), rfl, q _ (I.hok.fresh (Nat.le_refl _))⟩
/-- sorted(that set) -/
def rSortTxt (P : Program) (w : World) : List V → Hp → VK → Prop := fun vs H Q => ∃ (a : Addr) (xs : List Str), vs = [.ref a] ∧ H a = some (SetT P w a xs) ∧ xs.length < 64 ∧
  ∀ (ys : List Str) p, ys.Nodup → (∀ k, k ∈ ys ↔ k ∈ xs) → sortedS ys = true → H p = none → Q (.ref p) (upd H p (.lst (ys.map V.str)))
theorem cr_sortTxt (calm : X.calm = true) : CallR X (.builtin "sorted") (rSortTxt X.prog X.w) := by
  intro pins s σ H vs us Q I r q
  obtain ⟨a, xs, rfl, at0, few, q⟩ := q
  rw [Vals.ref1 r]
  obtain ⟨l, len, same, D, set0, F, kb, nd⟩ := (I.hok a _ at0).1
  rw [List.take_length] at same
  obtain ⟨es, ep, t⟩ := D
  have size : es.size = l.length := F.sz
  have few2 : l.length < 64 := by omega
  refine Calls.call_function_entry kind_sorted plain_sorted entry_sorted (args_sorted1 _) ?_
  unfold Builtin.«sorted»
  refine wpAny_bind (show wpAny _ _ (checkCount "sorted" 1 1 _) _ _ _ from wpAny_pure (wpAny_bind (collect_set (A := X.A.in1) (I.ok.hd calm) ⟨_, set0, rfl, rfl⟩ F.fit (by rw [size]; unfold scanBound; omega) kb.1 kb.2 fun s1 vs kept grow gens os pm => ?_)))
  obtain ⟨ks, txt, pk⟩ : ∃ ks, StrsAre vs ks ∧ ks.Perm l := by
    obtain ⟨ks, txt, inn⟩ : ∃ ks, StrsAre vs ks ∧ ∀ k, k ∈ l → k ∈ ks := by
      refine all_txt vs l (fun v hv => ?_) fun k hk => ?_
      · obtain ⟨e, he, ev⟩ := List.mem_map.mp (pm.mem_iff.mp hv)
        obtain ⟨⟨k, hk, _⟩, _⟩ := F.el e he
        obtain ⟨u, z⟩ := Value.isStrOf_shape hk
        exact ⟨k, u, by rw [← ev]; exact z⟩
      · obtain ⟨e, he, z⟩ := (F.mem k).mp hk
        obtain ⟨u, ev⟩ := Value.isStrOf_shape z
        exact ⟨u, pm.mem_iff.mpr (List.mem_map.mpr ⟨e, he, ev⟩)⟩
    obtain ⟨r, pr⟩ := perm_rest nd inn
    have : ks.length = l.length := by rw [← StrsAre.len_eq txt, pm.length_eq, List.length_map, Array.length_toList, size]
    have : r = [] := by
      have z := pr.length_eq
      rw [List.length_append] at z
      exact List.length_eq_zero_iff.mp (by omega)
    rw [this, List.append_nil] at pr
    exact ⟨ks, txt, pr⟩
  have lv : vs.length = l.length := by rw [StrsAre.len_eq txt, pk.length_eq]
  refine wpAny_bind (wpAny_newList ?_ (by rw [lv, sizeLine_eq]; omega))
  have atL : (s1.heap.push (seqObj "list" vs.toArray 0)).get? s1.heap.objs.size = some (seqObj "list" vs.toArray 0) := Heap.get?_push_size _ rfl
  refine wpAny_bind (wpAny_holding (wpAny_call_entry slot_list_sort ⟨_, atL, rfl⟩ entry_list_sort
    (list_sort_treeK strKind_oneLt atL txt.keysOf (fun v1 v2 rest e => keyKind_strs (by rw [← e]; exact txt)) (by rw [lv]; exact few2) fun st ps so => ⟨_, rfl, ?_⟩) (args_list_sort _)))
  obtain ⟨ys, y1, y2, y3⟩ := sorted_out_str txt ps so
  obtain ⟨c, at2⟩ := sortedHeap_at (vs := vs) (out := (arrOf st).map (·.2)) atL
  have yl := y2.trans pk
  refine wpAny_pure ⟨_, rfl, ?_⟩
  have old : ∀ b o, s.heap.get? b = some o → (sortedHeap (s1.heap.push (seqObj "list" vs.toArray 0)) s1.heap.objs.size vs ((arrOf st).map (·.2))).get? b = some o := fun b o e => by
    have lt := Heap.lt_size (kept b o e)
    rw [sortedHeap_old (Nat.ne_of_lt lt) (by rw [size_push']; exact Nat.lt_succ_of_lt lt)]
    exact Heap.get?_push_of_some _ (kept b o e)
  show EP X pins σ Q _ { s1 with heap := sortedHeap (s1.heap.push (seqObj "list" vs.toArray 0)) s1.heap.objs.size vs ((arrOf st).map (·.2)) }
  generalize sortedHeap (s1.heap.push (seqObj "list" vs.toArray 0)) s1.heap.objs.size vs ((arrOf st).map (·.2)) = hp at at2 old ⊢
  have fresh := I.hok.fresh grow
  have fits : (ys.map V.str).length ≤ sizeLine := by rw [List.length_map, yl.length_eq]; exact Nat.le_trans (Nat.le_of_lt few2) (by decide)
  have J : Inv X pins σ (upd H s1.heap.objs.size (.lst (ys.map V.str))) { s with heap := hp, gens := s1.gens, drawn := s1.drawn, toks := s1.toks } :=
    I.call (ch := []) (Un.laid old grow fresh) (I.hok.laid old grow ⟨fits, _, c, vals_of_strs y1, by rw [Array.toArray_toList]; exact at2⟩) (by rw [gens]; exact I.bare) (fun _ z => nomatch z)
  have whole : ({ s1 with heap := hp } : Shared) = { s with heap := hp, gens := s1.gens, drawn := s1.drawn, toks := s1.toks } := by
    cases s1
    cases s
    cases os
    rfl
  rw [whole]
  exact ⟨.ref _, _, J, rfl, q ys _ (yl.nodup_iff.mpr nd) (fun k => by rw [yl.mem_iff, same]) y3 fresh⟩
end

/-! ### names: small letters; lists of texts in order -/
section
open PySem.Spec PyProof.Rows
def az (c : Nat) : Bool := decide (97 ≤ c) && decide (c ≤ 122)
def nameL (l : List Nat) : Bool := decide (l ≠ []) && decide (l.length < 9) && l.all az && decide (l ≠ [115, 117, 109]) && decide (l ≠ [97, 118, 101, 114, 97, 103, 101])
theorem alphaC : ∀ c : Nat, c < 128 → Unicode.isAlpha c = (az c || (decide (65 ≤ c) && decide (c ≤ 90))) := by decide +kernel
theorem lowerC : ∀ c : Nat, c < 128 → Unicode.isLower c = az c := by decide +kernel
theorem upperC : ∀ c : Nat, c < 128 → (Unicode.isUpper c || Unicode.isTitle c) = (decide (65 ≤ c) && decide (c ≤ 90)) := by decide +kernel
theorem az_ascii {c : Nat} (h : az c = true) : c < 128 := by
  unfold az at h
  rw [Bool.and_eq_true, decide_eq_true_eq, decide_eq_true_eq] at h
  omega
/-- the three checks of a text's signs -/
theorem small_signs (l : List Nat) : (if l.all (· < 128) = true then (if (decide (0 < l.length) && l.all Unicode.isAlpha) = true then (l.any Unicode.isLower && !l.any fun c => Unicode.isUpper c || Unicode.isTitle c) else false) else false) = (decide (l ≠ []) && l.all az) := by
  by_cases h : l.all (· < 128) = true
  · rw [if_pos h]
    have asc : ∀ c ∈ l, c < 128 := fun c hc => by
      have := List.all_eq_true.mp h c hc
      simpa using this
    rw [Bool.eq_iff_iff]
    constructor
    · intro z
      split at z
      · rename_i z1
        rw [Bool.and_eq_true, decide_eq_true_eq] at z1
        rw [Bool.and_eq_true, Bool.not_eq_true'] at z
        rw [Bool.and_eq_true, decide_eq_true_eq]
        refine ⟨fun e => by rw [e] at z1; exact absurd z1.1 (by decide), List.all_eq_true.mpr fun c hc => ?_⟩
        have a1 := List.all_eq_true.mp z1.2 c hc
        rw [alphaC c (asc c hc), Bool.or_eq_true] at a1
        rcases a1 with a1 | a1
        · exact a1
        · have a2 := List.any_eq_false.mp z.2 c hc
          rw [upperC c (asc c hc)] at a2
          exact absurd a1 a2
      · cases z
    · intro z
      rw [Bool.and_eq_true, decide_eq_true_eq] at z
      obtain ⟨ne, all⟩ := z
      have al := List.all_eq_true.mp all
      have p1 : (decide (0 < l.length) && l.all Unicode.isAlpha) = true := by
        rw [Bool.and_eq_true, decide_eq_true_eq]
        refine ⟨List.length_pos_iff.mpr ne, List.all_eq_true.mpr fun c hc => ?_⟩
        rw [alphaC c (asc c hc), al c hc]
        rfl
      rw [if_pos p1, Bool.and_eq_true, Bool.not_eq_true']
      obtain ⟨c, r, rfl⟩ : ∃ c r, l = c :: r := by
        cases l with
        | nil => exact absurd rfl ne
        | cons c r => exact ⟨c, r, rfl⟩
      refine ⟨?_, List.any_eq_false.mpr fun d hd => ?_⟩
      · rw [List.any_cons, lowerC c (asc c (List.mem_cons_self ..)), al c (List.mem_cons_self ..)]
        rfl
      · rw [upperC d (asc d hd)]
        have := al d hd
        unfold az at this
        rw [Bool.and_eq_true, decide_eq_true_eq, decide_eq_true_eq] at this
        rw [Bool.and_eq_true, decide_eq_true_eq, decide_eq_true_eq]
        omega
  · rw [if_neg h]
    symm
    rw [Bool.and_eq_false_iff]
    refine .inr ?_
    rw [Bool.eq_false_iff]
    intro z
    refine h (List.all_eq_true.mpr fun c hc => ?_)
    rw [decide_eq_true_eq]
    exact az_ascii (List.all_eq_true.mp z c hc)
/-- the order of texts -/
def leS (x y : Str) : Prop := ¬ y.cps.toList < x.cps.toList
theorem leS_anti {x y : Str} (a : leS x y) (b : leS y x) : x = y := by
  have e : x.cps.toList = y.cps.toList := List.le_antisymm (List.not_lt.mp a) (List.not_lt.mp b)
  cases x
  cases y
  congr
  exact Array.toList_inj.mp e
theorem leS_trans {x y z : Str} (a : leS x y) (b : leS y z) : leS x z := List.not_lt.mpr (List.le_trans (List.not_lt.mp a) (List.not_lt.mp b))
theorem rising_pw : ∀ (l : List Str) (x : Str), risingS x l = true → (x :: l).Pairwise leS
  | [], x, _ => List.pairwise_singleton _ _
  | y :: l, x, h => by
    have h2 : (!ltCps y.cps.toList x.cps.toList && risingS y l) = true := h
    rw [Bool.and_eq_true, Bool.not_eq_true', ltCps_eq, decide_eq_false_iff_not] at h2
    have ih := rising_pw l y h2.2
    refine List.pairwise_cons.mpr ⟨fun z hz => ?_, ih⟩
    rcases List.mem_cons.mp hz with rfl | hz
    · exact h2.1
    · exact leS_trans h2.1 ((List.pairwise_cons.mp ih).1 z hz)
theorem sorted_pw {l : List Str} (h : sortedS l = true) : l.Pairwise leS := by
  cases l with
  | nil => exact List.Pairwise.nil
  | cons x l => exact rising_pw l x h
theorem pw_uniq : ∀ {l m : List Str}, l.Pairwise leS → m.Pairwise leS → l.Nodup → m.Nodup → (∀ k, k ∈ l ↔ k ∈ m) → l = m
  | [], [], _, _, _, _, _ => rfl
  | [], y :: m, _, _, _, _, h => absurd ((h y).mpr (List.mem_cons_self ..)) (by simp)
  | x :: l, [], _, _, _, _, h => absurd ((h x).mp (List.mem_cons_self ..)) (by simp)
  | x :: l, y :: m, p, q, n, o, h => by
    obtain ⟨p1, p2⟩ := List.pairwise_cons.mp p
    obtain ⟨q1, q2⟩ := List.pairwise_cons.mp q
    obtain ⟨n1, n2⟩ := List.nodup_cons.mp n
    obtain ⟨o1, o2⟩ := List.nodup_cons.mp o
    have e : x = y := by
      rcases List.mem_cons.mp ((h x).mp (List.mem_cons_self ..)) with z | z
      · exact z
      · rcases List.mem_cons.mp ((h y).mpr (List.mem_cons_self ..)) with u | u
        · exact u.symm
        · exact leS_anti (p1 y u) (q1 x z)
    subst e
    rw [pw_uniq p2 q2 n2 o2 fun k => ?_]
    constructor
    · intro hk
      rcases List.mem_cons.mp ((h k).mp (List.mem_cons_of_mem _ hk)) with z | z
      · exact absurd hk (by rw [z]; exact n1)
      · exact z
    · intro hk
      rcases List.mem_cons.mp ((h k).mpr (List.mem_cons_of_mem _ hk)) with z | z
      · exact absurd hk (by rw [z]; exact o1)
      · exact z
/-- in order, each once -/
def inOrder (l : List Str) : Bool := decide l.Nodup && sortedS l
theorem order_is {l m : List Str} (nd : m.Nodup) (same : ∀ k, k ∈ m ↔ k ∈ l) (so : sortedS m = true) : decide (l = m) = inOrder l := by
  unfold inOrder
  rw [Bool.eq_iff_iff, decide_eq_true_eq, Bool.and_eq_true, decide_eq_true_eq]
  constructor
  · intro e
    rw [e]
    exact ⟨nd, so⟩
  · rintro ⟨n, s⟩
    exact pw_uniq (sorted_pw s) (sorted_pw so) n nd fun k => (same k).symm
end

/-! ### t[::-1] of a tuple -/
section
open PyProof.Rows
theorem fm_same {f g : Nat → Option Value} : ∀ l : List Nat, (∀ k ∈ l, f k = g k) → l.filterMap f = l.filterMap g
  | [], _ => rfl
  | x :: l, h => by
    rw [List.filterMap_cons, List.filterMap_cons, h x (List.mem_cons_self ..), fm_same l fun k hk => h k (List.mem_cons_of_mem _ hk)]
theorem back_pick : ∀ (n : Nat) (xs : List Value), xs.length = n → ((List.range n).filterMap fun k => xs[n - 1 - k]?) = xs.reverse
  | 0, xs, h => by
    rw [List.length_eq_zero_iff.mp h]
    rfl
  | n + 1, xs, h => by
    obtain ⟨ys, x, rfl⟩ : ∃ ys x, xs = ys ++ [x] := ⟨xs.dropLast, xs.getLast (fun e => by rw [e] at h; cases h), (List.dropLast_concat_getLast _).symm⟩
    have ly : ys.length = n := by
      rw [List.length_append] at h
      exact Nat.succ.inj h
    rw [List.range_succ_eq_map, List.filterMap_cons, List.reverse_append, List.reverse_singleton, List.singleton_append]
    have e0 : (ys ++ [x])[n + 1 - 1 - 0]? = some x := by
      rw [List.getElem?_append_right (by omega)]
      rw [show n + 1 - 1 - 0 - ys.length = 0 by omega]
      rfl
    rw [e0]
    show x :: List.filterMap _ (List.map Nat.succ (List.range n)) = x :: ys.reverse
    rw [List.filterMap_map, ← back_pick n ys ly]
    refine congrArg (x :: ·) (fm_same _ fun k hk => ?_)
    have hk := List.mem_range.mp hk
    show (ys ++ [x])[n + 1 - 1 - (k + 1)]? = ys[n - 1 - k]?
    rw [List.getElem?_append_left (by omega)]
    congr 1
    omega
variable {prog : Program} {w : World} {A : Around} {E : Value → Shared → Prop} {s : Shared}
theorem back_applied {sl : Addr} {vl vu vs : Value} {n : Nat} {Q : Int × Int × Nat → Shared → Prop} (at0 : s.heap.IsSliceOf sl vl vu vs) (pl : IsPart vl none) (pu : IsPart vu none) (ps : IsPart vs (some (-1)))
    (goal : Q ((n : Int) - 1, -1, n) s) : wpAny (model prog w) A (Builtin.Slice.sliceApplied (.ref sl) (pure (n : Int))) Q E s := by
  obtain ⟨o, ho, _, hd⟩ := id at0
  unfold Builtin.Slice.sliceApplied Builtin.Slice.sliceFields
  refine wpAny_bind (wpAny_bind (wpAny_field ho hd (x := vl) rfl (wpAny_bind (wpAny_field ho hd (x := vu) rfl (wpAny_bind (wpAny_field ho hd (x := vs) rfl (wpAny_pure ?_)))))))
  refine wpAny_bind (HT.slicePart_ ps ?_)
  show wpAny _ _ (if ((-1 : Int) == 0) = true then _ else _) _ _ s
  rw [if_neg (show ¬ ((-1 : Int) == 0) = true by decide)]
  refine wpAny_bind (HT.slicePart_ pl (wpAny_bind (HT.slicePart_ pu (wpAny_bind (wpAny_pure ?_)))))
  have e : Builtin.Slice.sliceAdjust none none (-1) (n : Int) = ((n : Int) - 1, -1) := rfl
  have e2 : Builtin.Slice.slicePlaces ((n : Int) - 1) (-1) (-1) = n := by
    unfold Builtin.Slice.slicePlaces
    rw [if_neg (by decide)]
    by_cases c : (n : Int) - 1 > -1
    · rw [if_pos c, show (-(-1 : Int)) = 1 by decide, Int.ediv_one]
      omega
    · rw [if_neg c]
      omega
  show wpAny _ _ (match Builtin.Slice.sliceAdjust none none (-1) (n : Int) with | (lo, hi) => pure (lo, (-1 : Int), Builtin.Slice.slicePlaces lo hi (-1))) _ _ s
  rw [e]
  show wpAny _ _ (pure ((n : Int) - 1, (-1 : Int), Builtin.Slice.slicePlaces ((n : Int) - 1) (-1) (-1))) _ _ s
  rw [e2]
  exact wpAny_pure goal
theorem back_tuple {t sl : Addr} {items : Array Value} {vl vu vs : Value} {Q : Value → Shared → Prop} (ht : IsTup s.heap t items) (at0 : s.heap.IsSliceOf sl vl vu vs) (pl : IsPart vl none) (pu : IsPart vu none) (ps : IsPart vs (some (-1)))
    (goal : Q (.ref s.heap.objs.size) { s with heap := s.heap.push { cls := .type "tuple", data := .seq items.toList.reverse.toArray } }) (size : items.size ≤ sizeLine) : wpAny (model prog w) A (getItem (.ref t) (.ref sl)) Q E s := by
  obtain ⟨o, ho, hc, hd⟩ := id at0
  have ty : s.TypeIs (.ref sl) "slice" := ⟨o, ho, hc⟩
  unfold getItem
  try with_reducible refine (wpAny_holding ?_)
  first | refine (wpAny_bind (wpAny_pure ?_)) | skip
  refine wpAny_bind (wpAny_sequenceKey ht.typeIs (by decide) (wpAny_bind (wpAny_callSpecial?_slot (name := Str.ofString "__getitem__") ht.typeIs slot_tuple_getitem (wpAny_call_entry slot_tuple_getitem ht.typeIs entry_tuple_getitem ?_ (args_tuple_getitem _ _)))))
  show wpAny _ A.in1 (Builtin.Tuple.tupleItemsOf (Value.ref t) >>= _) _ _ s
  refine wpAny_bind (tupleItemsOf_ ht (wpAny_bind (wpAny_typeOf ty ?_)))
  rw [if_pos (show (Value.type "slice" == Value.type "slice") = true by decide)]
  refine wpAny_bind (back_applied at0 pl pu ps ?_)
  have no : ¬ (((items.size : Int) - 1 == 0 && (-1 : Int) == 1 && items.size == items.size) = true) := by
    rw [show ((-1 : Int) == 1) = false by decide, Bool.and_false, Bool.false_and]
    exact Bool.false_ne_true
  have pick : (List.filterMap (fun (k : Nat) => items[((items.size : Int) - 1 + (k : Int) * (-1)).toNat]?) (List.range items.size)).toArray = items.toList.reverse.toArray := by
    rw [← back_pick items.size items.toList Array.length_toList]
    refine congrArg List.toArray (fm_same _ fun k hk => ?_)
    have lt := List.mem_range.mp hk
    rw [show ((items.size : Int) - 1 + (k : Int) * (-1)).toNat = items.size - 1 - k by omega, Array.getElem?_toList]
  have fit : sizeOk (.seq items.toList.reverse.toArray) := by
    show items.toList.reverse.toArray.size ≤ sizeLine
    rw [List.size_toArray, List.length_reverse, Array.length_toList]
    exact size
  show wpAny _ A.in1 (if ((items.size : Int) - 1 == 0 && (-1 : Int) == 1 && items.size == items.size) = true then _ else _) _ _ s
  rw [if_neg no, pick]
  first
    | exact (wpAny_bind (m := Builtin.Tuple.tupleExact _) (wpAny_newObj_type (wpAny_pure ⟨_, rfl, wpAny_pure goal⟩) fit))
    | exact (wpAny_bind (m := Builtin.Tuple.tupleExact _) (wpAny_newObj_type (wpAny_bind (wpAny_pure (wpAny_pure ⟨_, rfl, wpAny_pure goal⟩))) fit))
    | exact (wpAny_bind (wpAny_bind (m := Builtin.Tuple.tupleExact _) (wpAny_newObj_type (wpAny_pure (wpAny_pure ⟨_, rfl, wpAny_pure goal⟩)) fit)))
    | exact (wpAny_bind (wpAny_bind (m := Builtin.Tuple.tupleExact _) (wpAny_newObj_type (wpAny_pure ⟨_, rfl, wpAny_pure goal⟩) fit)))
end
section
open PySem.Spec PyProof.Rows
variable {X : Cx}
/-- t[::-1] of a tuple -/
def tRevT (K : PySem.W.Frag) (te : TE) : TE := fun σ H Q => te σ H fun x H1 => ∃ a xs, x = .ref a ∧ SqT K H1 a xs ∧ ∀ p, H1 p = none → Q (.ref p) (upd H1 p (.tup xs.reverse))
theorem pe_revT {e : Expr} {te : TE} {k : Nat} {p1 p2 p3 pos : Pos} (he : PE X e te) : PE X (.Subscript e (.Slice none none (some (.UnaryOp .USub (.Constant (.int 1) k p1) p2)) p3) pos) (tRevT X.K te) := by
  refine ⟨fun pins s σ H Q I h => Subscript_ (thn (he.run pins s σ H _ I h) fun v s1 ⟨x, H1, I1, r1, a, xs, ex, hx, q⟩ => ?_)⟩
  subst ex
  cases r1
  have step : PO X (some (.UnaryOp .USub (.Constant (.int 1) k p1) p2)) (tPart (tUn (rU fun i => .int (-i)) (tC (.int 1)))) := po_some (pe_un un_neg pe_int)
  have nothing : ∀ (st : Shared) (Hn : Hp), Inv X pins σ Hn st → _ := fun st Hn Jn => po_none.run (X := X) pins st σ Hn (fun part back => part = none ∧ back = Hn) Jn ⟨rfl, rfl⟩
  refine wpAny_Slice (thn (nothing s1 H1 I1) fun vl s2 ⟨_, H2, I2, pl, lo0, same2⟩ => ?_)
  subst lo0 same2
  refine thn (nothing s2 H2 I2) fun vu s3 ⟨_, H3, I3, pu, hi0, same3⟩ => ?_
  subst hi0 same3
  refine thn (step.run pins s3 σ H3 (fun part back => part = some (-1) ∧ back = H3) I3 ⟨1, rfl, -1, rfl, rfl, rfl⟩) fun vs s4 ⟨_, H4, I4, ps, st0, same4⟩ => ?_
  subst st0 same4
  have I5 : Inv X pins σ H4 { s4 with heap := s4.heap.push { cls := .type "slice", data := .fields #[vl, vu, vs] } } := I4.kept (t' := s4.toks) (fun b ob z => Heap.get?_push_of_some _ z)
  obtain ⟨its, rv, tt, size⟩ := I5.tuple hx
  have len := rv.length
  show wpAny (model X.prog X.w) X.A (subscriptTail e (.Slice none none (some (.UnaryOp .USub (.Constant (.int 1) k p1) p2)) p3) (Value.ref a) (Value.ref s4.heap.objs.size)) (EP X pins σ Q) X.xe { s4 with heap := s4.heap.push { cls := .type "slice", data := .fields #[vl, vu, vs] } }
  refine (tail_any (ops := [Value.ref a, Value.ref s4.heap.objs.size]) tt.typeIs slot_tuple_getitem.lookup ?_ (by with_unfolding_all rfl))
  refine back_tuple tt (Heap.IsSliceOf.new _ vl vu vs) pl pu ps ?_ (by rw [List.size_toArray]; omega)
  refine ⟨.ref _, _, I5.laid (t' := s4.toks) (o := .tup xs.reverse) (fun b ob z => Heap.get?_push_of_some _ z) (Nat.le_refl _) ?_, rfl, q _ (I5.hok.fresh (Nat.le_refl _))⟩
  exact ⟨by rw [List.length_reverse]; exact size, _, rv.reverse, IsTup.new _ _⟩
end

end Bs
namespace Bs
open PySem
def top (i : Nat) : Stmt := PySem.Challenge.pw_backsheet_k04_forms_checked.main.body.getD i (.Pass ⟨0, 0, 0, 0⟩)
open L2
abbrev s_InvalidNumber_init : Stmt := inClass (top 3) 0
theorem sc_InvalidNumber_init : FnScope ["self", "value"] ["self", "value"] (defScope s_InvalidNumber_init) := ⟨rfl, rfl, rfl, by decide +kernel, rfl, by decide +kernel, by decide +kernel⟩
abbrev s_is_whole : Stmt := top 7
theorem sc_is_whole : FnScope ["value"] ["value"] (defScope s_is_whole) := ⟨rfl, rfl, rfl, by decide +kernel, rfl, by decide +kernel, by decide +kernel⟩
abbrev s_is_ratio : Stmt := top 8
theorem sc_is_ratio : FnScope ["value", "top", "bottom"] ["value"] (defScope s_is_ratio) := ⟨rfl, rfl, rfl, by decide +kernel, rfl, by decide +kernel, by decide +kernel⟩
abbrev s_as_ratio : Stmt := top 9
theorem sc_as_ratio : FnScope ["value"] ["value"] (defScope s_as_ratio) := ⟨rfl, rfl, rfl, by decide +kernel, rfl, by decide +kernel, by decide +kernel⟩
abbrev s_is_name : Stmt := top 13
theorem sc_is_name : FnScope ["value"] ["value"] (defScope s_is_name) := ⟨rfl, rfl, rfl, by decide +kernel, rfl, by decide +kernel, by decide +kernel⟩
abbrev s_is_form : Stmt := top 14
theorem sc_is_form : FnScope ["value", "terms", "constant", "names", "term", "name", "_"] ["value"] (defScope s_is_form) := ⟨rfl, rfl, rfl, by decide +kernel, rfl, by decide +kernel, by decide +kernel⟩
abbrev s_is_term : Stmt := top 15
theorem sc_is_term : FnScope ["value", "name", "factor"] ["value"] (defScope s_is_term) := ⟨rfl, rfl, rfl, by decide +kernel, rfl, by decide +kernel, by decide +kernel⟩
abbrev s_constant_form : Stmt := top 16
theorem sc_constant_form : FnScope ["number"] ["number"] (defScope s_constant_form) := ⟨rfl, rfl, rfl, by decide +kernel, rfl, by decide +kernel, by decide +kernel⟩
abbrev s_cell_form : Stmt := top 17
theorem sc_cell_form : FnScope ["name"] ["name"] (defScope s_cell_form) := ⟨rfl, rfl, rfl, by decide +kernel, rfl, by decide +kernel, by decide +kernel⟩
abbrev s_names_in : Stmt := top 18
theorem sc_names_in : FnScope ["form", "name", "_"] ["form"] (defScope s_names_in) := ⟨rfl, rfl, rfl, by decide +kernel, rfl, by decide +kernel, by decide +kernel⟩
abbrev s_l_box : Stmt := top 20
theorem sc_l_box : FnScope ["_law_script", "_law_great", "_law_cell"] ["_law_script"] (defScope s_l_box) := ⟨rfl, rfl, rfl, by decide +kernel, rfl, by decide +kernel, by decide +kernel⟩
abbrev s_l_mixed : Stmt := top 21
theorem sc_l_mixed : FnScope ["_law_cell", "_law_k", "_law_whole"] ["_law_cell", "_law_k"] (defScope s_l_mixed) := ⟨rfl, rfl, rfl, by decide +kernel, rfl, by decide +kernel, by decide +kernel⟩
abbrev s_l_take : Stmt := top 22
theorem sc_l_take : FnScope ["_law_box_here", "_law_size", "_law_found", "_law_cell", "_law_reach"] ["_law_box_here", "_law_size"] (defScope s_l_take) := ⟨rfl, rfl, rfl, by decide +kernel, rfl, by decide +kernel, by decide +kernel⟩
abbrev s_l_shuffled : Stmt := top 23
theorem sc_l_shuffled : FnScope ["_law_box_here", "_law_things", "_law_pile", "_law_k"] ["_law_box_here", "_law_things"] (defScope s_l_shuffled) := ⟨rfl, rfl, rfl, by decide +kernel, rfl, by decide +kernel, by decide +kernel⟩
abbrev s_l_names : Stmt := top 24
theorem sc_l_names : FnScope ["_law_box_here", "_law_many", "_law_letters", "_law_found", "_law_k", "_law_size", "_law_name", "_law_j", "_law_one"] ["_law_box_here", "_law_many"] (defScope s_l_names) := ⟨rfl, rfl, rfl, by decide +kernel, rfl, by decide +kernel, by decide +kernel⟩
abbrev s_l_shared : Stmt := top 25
theorem sc_l_shared : FnScope ["_law_one", "_law_other"] ["_law_one", "_law_other"] (defScope s_l_shared) := ⟨rfl, rfl, rfl, by decide +kernel, rfl, by decide +kernel, by decide +kernel⟩
abbrev s_l_ratio : Stmt := top 26
theorem sc_l_ratio : FnScope ["_law_top", "_law_bottom", "_law_by"] ["_law_top", "_law_bottom"] (defScope s_l_ratio) := ⟨rfl, rfl, rfl, by decide +kernel, rfl, by decide +kernel, by decide +kernel⟩
abbrev s_l_is_ratio : Stmt := top 27
theorem sc_l_is_ratio : FnScope ["_law_value", "_law_part"] ["_law_value"] (defScope s_l_is_ratio) := ⟨rfl, rfl, rfl, by decide +kernel, rfl, by decide +kernel, by decide +kernel⟩
abbrev s_l_number : Stmt := top 28
theorem sc_l_number : FnScope ["_law_box_here", "_law_way", "_law_top"] ["_law_box_here"] (defScope s_l_number) := ⟨rfl, rfl, rfl, by decide +kernel, rfl, by decide +kernel, by decide +kernel⟩
abbrev s_l_given : Stmt := top 29
theorem sc_l_given : FnScope ["_law_box_here", "_law_number_here"] ["_law_box_here", "_law_number_here"] (defScope s_l_given) := ⟨rfl, rfl, rfl, by decide +kernel, rfl, by decide +kernel, by decide +kernel⟩
abbrev s_l_form : Stmt := top 30
theorem sc_l_form : FnScope ["_law_terms", "_law_constant", "_law_some", "_law_name"] ["_law_terms", "_law_constant"] (defScope s_l_form) := ⟨rfl, rfl, rfl, by decide +kernel, rfl, by decide +kernel, by decide +kernel⟩
abbrev s_l_drawn_form : Stmt := top 31
theorem sc_l_drawn_form : FnScope ["_law_box_here", "_law_names_here", "_law_terms", "_law_name"] ["_law_box_here", "_law_names_here"] (defScope s_l_drawn_form) := ⟨rfl, rfl, rfl, by decide +kernel, rfl, by decide +kernel, by decide +kernel⟩
abbrev s_l_bent_term : Stmt := top 32
theorem sc_l_bent_term : FnScope ["_law_box_here", "_law_term", "_law_odd", "_law_numbers", "_law_way"] ["_law_box_here", "_law_term"] (defScope s_l_bent_term) := ⟨rfl, rfl, rfl, by decide +kernel, rfl, by decide +kernel, by decide +kernel⟩
abbrev s_l_bent_form : Stmt := top 33
theorem sc_l_bent_form : FnScope ["_law_box_here", "_law_form_here", "_law_way", "_law_terms", "_law_constant", "_law_at"] ["_law_box_here", "_law_form_here"] (defScope s_l_bent_form) := ⟨rfl, rfl, rfl, by decide +kernel, rfl, by decide +kernel, by decide +kernel⟩
abbrev s_l_is_name : Stmt := top 34
theorem sc_l_is_name : FnScope ["_law_value", "_law_letter"] ["_law_value"] (defScope s_l_is_name) := ⟨rfl, rfl, rfl, by decide +kernel, rfl, by decide +kernel, by decide +kernel⟩
abbrev s_l_is_form : Stmt := top 35
theorem sc_l_is_form : FnScope ["_law_value", "_law_term", "_law_names_here"] ["_law_value"] (defScope s_l_is_form) := ⟨rfl, rfl, rfl, by decide +kernel, rfl, by decide +kernel, by decide +kernel⟩
abbrev s_law : Stmt := top 36
theorem sc_law : FnScope ["_law_script", "_law_box_here", "_law_names_here", "_law_turn", "_law_form_here", "_law_bent", "_law_k", "_law_number_here", "_law_name", "_law_odd", "_law_deep", "_law_by", "_law_value"] ["_law_script"] (defScope s_law) := ⟨rfl, rfl, rfl, by decide +kernel, rfl, by decide +kernel, by decide +kernel⟩
open PySem L2
/-! ### numbers -/
def CPowB (i j : Int) : Prop := 0 ≤ j ∧ (Builtin.Int.intBits i : Int) * j ≤ 2 ^ 27
theorem op_powB {X : Cx} : OpR X (binaryOp .Pow) (rI CPowB fun i j => .int (i ^ j.toNat)) := opI fun _ _ _ _ _ _ _ hc q => PyProof.Rows.pow_int hc.1 hc.2 q
/-- what the module leaves of the built-in names -/
structure Bt (mg : Str → Option Value) : Prop where
  n_len : mg "len" = none
  n_max : mg "max" = none
  n_abs : mg "abs" = none
  n_any : mg "any" = none
  n_all : mg "all" = none
  n_isinstance : mg "isinstance" = none
  n_range : mg "range" = none
  n_zip : mg "zip" = none
  n_int : mg "int" = none
  n_bool : mg "bool" = none
  n_tuple : mg "tuple" = none
  n_list : mg "list" = none
/-! ### a def that is known, and a def that keeps a promise -/
def Df (K : PySem.W.Frag) (mg : Str → Option Value) (x : Str) (st : Stmt) (ps : List Str) : Prop :=
  ∃ f fd, Fun K x x st f fd ∧ mg x = some (.ref f) ∧ Binds K fd ps []
def Kn (P : Program) (w : World) (K : PySem.W.Frag) (mg : Str → Option Value) (base : Heap) (cx : CXT) (x : Str) (k : Nat) (ps : List Str) (sp : Sp) : Prop :=
  ∃ f fd, FnOk P w K mg base cx k f fd ps sp ∧ mg x = some (.ref f) ∧ PySem.W.keepIn K (.ref f) = true ∧ Binds K fd ps []
/-! ### the box of draws: a list of a list, a number, a list, a number -/
def bl (g : Addr) (cur : Int) (c : Addr) (m : Int) : List V := [.ref g, .int cur, .ref c, .int m]
structure BoxIs (H : Hp) (b g c : Addr) (gs cs : List Int) (cur m : Int) : Prop where
  hb : H b = some (.lst (bl g cur c m))
  hg : H g = some (.lst (gs.map V.int))
  hc : H c = some (.lst (cs.map V.int))
  bg : b ≠ g
  bc : b ≠ c
  gc : g ≠ c
  m0 : 0 ≤ m
  lg : gs.length ≤ 63
  lc : cs.length ≤ 63
/-- a box from which at most n numbers have been drawn -/
def Box (H : Hp) (b g c : Addr) (n : Nat) : Prop := ∃ gs cs cur m, BoxIs H b g c gs cs cur m ∧ m ≤ (n : Int)
/-- all but the box's two objects is as it was -/
def But (b g : Addr) (H H' : Hp) : Prop := ∀ a o, H a = some o → a ≠ b → a ≠ g → H' a = some o
theorem But.refl (b g : Addr) (H : Hp) : But b g H H := fun _ _ h _ _ => h
theorem But.trans {b g : Addr} {H H1 H2 : Hp} (x : But b g H H1) (y : But b g H1 H2) : But b g H H2 := fun a o h h1 h2 => y a o (x a o h h1 h2) h1 h2
theorem But.of {b g : Addr} {H H' : Hp} (x : Same H H') : But b g H H' := fun a o h _ _ => x a o h
theorem But.updb {b g : Addr} {H : Hp} {o : HO} : But b g H (upd H b o) := fun a o' h h1 _ => by rw [upd_ne h1]; exact h
theorem But.updg {b g : Addr} {H : Hp} {o : HO} : But b g H (upd H g o) := fun a o' h _ h1 => by rw [upd_ne h1]; exact h
theorem same_new {H : Hp} {p : Addr} (h : H p = none) (o : HO) : Same H (upd H p o) := fun b u q => by rw [upd_ne (ne_of_none q h)]; exact q
theorem Box.same {H H' : Hp} {b g c : Addr} {n : Nat} (x : Box H b g c n) (s : Same H H') : Box H' b g c n := by
  obtain ⟨gs, cs, cur, m, B, hm⟩ := x
  exact ⟨gs, cs, cur, m, ⟨s _ _ B.hb, s _ _ B.hg, s _ _ B.hc, B.bg, B.bc, B.gc, B.m0, B.lg, B.lc⟩, hm⟩
theorem Box.mono {H : Hp} {b g c : Addr} {n k : Nat} (x : Box H b g c n) (h : n ≤ k) : Box H b g c k := by
  obtain ⟨gs, cs, cur, m, B, hm⟩ := x
  exact ⟨gs, cs, cur, m, B, by omega⟩
theorem BoxIs.updb {H : Hp} {b g c : Addr} {gs cs : List Int} {cur m cur' m' : Int} (B : BoxIs H b g c gs cs cur m) (h : 0 ≤ m') : BoxIs (upd H b (.lst (bl g cur' c m'))) b g c gs cs cur' m' :=
  ⟨upd_same, by rw [upd_ne B.bg.symm]; exact B.hg, by rw [upd_ne B.bc.symm]; exact B.hc, B.bg, B.bc, B.gc, h, B.lg, B.lc⟩
theorem BoxIs.updg {H : Hp} {b g c : Addr} {gs cs gs' : List Int} {cur m : Int} (B : BoxIs H b g c gs cs cur m) (h : gs'.length ≤ 63) : BoxIs (upd H g (.lst (gs'.map V.int))) b g c gs' cs cur m :=
  ⟨by rw [upd_ne B.bg]; exact B.hb, upd_same, by rw [upd_ne B.gc.symm]; exact B.hc, B.bg, B.bc, B.gc, B.m0, h, B.lc⟩
theorem seqIx0 {n : Nat} : seqIndex? 0 (n + 1) = some 0 := by
  have h : ixN (n + 1) 0 = some 0 := by
    unfold ixN
    rw [if_pos (by decide), if_pos (by omega)]
    rfl
  exact (ixN_seq h).1
theorem gcd_fmod (u v : Int) : Int.gcd v (u.fmod v) = Int.gcd u v := by
  have e : u.fmod v = u - v * u.fdiv v := Int.fmod_def u v
  apply Nat.dvd_antisymm
  · have d1 : (Int.gcd v (u.fmod v) : Int) ∣ v := Int.gcd_dvd_left ..
    have d2 : (Int.gcd v (u.fmod v) : Int) ∣ u.fmod v := Int.gcd_dvd_right ..
    have d3 : (Int.gcd v (u.fmod v) : Int) ∣ u := by
      have d4 := Int.dvd_add d2 (Int.dvd_trans d1 (Int.dvd_mul_right v (u.fdiv v)))
      rw [show u.fmod v + v * u.fdiv v = u by omega] at d4
      exact d4
    exact Int.dvd_gcd d3 d1
  · have d1 : (Int.gcd u v : Int) ∣ u := Int.gcd_dvd_left ..
    have d2 : (Int.gcd u v : Int) ∣ v := Int.gcd_dvd_right ..
    refine Int.dvd_gcd d2 ?_
    rw [e]
    exact Int.dvd_sub d1 (Int.dvd_trans d2 (Int.dvd_mul_right v _))
theorem natAbs_fmod_lt {u v : Int} (h : v ≠ 0) : (u.fmod v).natAbs < v.natAbs := by
  rw [Int.fmod_eq_emod]
  have h1 := Int.emod_nonneg u h
  have h2 := Int.emod_lt u h
  split <;> omega
/-! ### promises -/
def spMixed : Sp := fun vs H Q _ => ∃ cell k : Int, vs = [.int cell, .int k] ∧ 0 ≤ k ∧ k < 2000000 ∧ ∀ r : Int, Q (.int r) H
def spTake : Sp := fun vs H Q _ => ∃ (b g c : Addr) (n : Nat) (size : Int), vs = [.ref b, .int size] ∧ Box H b g c n ∧ n < 1000000 ∧ 0 < size ∧ size.natAbs < 2 ^ 8000 ∧
  ∀ (r : Int) (H' : Hp), 0 ≤ r → r < size → Box H' b g c (n + 1) → But b g H H' → Q (.int r) H'
def spBox (K : PySem.W.Frag) : Sp := fun vs H Q _ => ∃ (a : Addr) (ns : List Int), vs = [.ref a] ∧ SqL K H a (ns.map V.int) ∧ ns.length ≤ 63 ∧
  ∀ (b g c : Addr) (H' : Hp), Box H' b g c 0 → Same H H' → H b = none → H g = none → H c = none → Q (.ref b) H'
def spShared : Sp := fun vs H Q _ => ∃ a b : Int, vs = [.int a, .int b] ∧ Q (.int (Int.gcd a b : Int)) H
section
variable {P : Program} {w : World} {K : PySem.W.Frag} {mg : Str → Option Value} {base : Heap}
theorem ok_mixed (D : Df K mg "_law_mixed" s_l_mixed ["_law_cell", "_law_k"]) : Kn P w K mg base CX0 "_law_mixed" 1 ["_law_cell", "_law_k"] spMixed := by
  obtain ⟨f, fd, F, hm, hb⟩ := D
  refine ⟨f, fd, F.ok sc_l_mixed (fun vs H Q E h => ?_) (fun cdv A outer s H vs Q E hr h => ?_), hm, F.kp, hb⟩
  · obtain ⟨cell, k, rfl, _⟩ := h
    rfl
  · obtain ⟨cell, k, rfl, k0, k1, q⟩ := h
    refine ⟨_, (pss_cons (ps_set (i := 2) sc_l_mixed.nd rfl (Or.inl rfl) (pe_op op_mod (pe_op op_powB (pe_op op_add (pe_op op_add (pe_op op_add (pe_op op_mod (pv 0) pe_int) (pe_op op_mul (pe_op op_mul pe_int (pv 1)) (pv 1))) (pe_op op_mul pe_int (pv 1))) pe_int) pe_int) pe_int))
      (pss_one (ps_ret (pe_op op_mod (pe_op op_add (pe_op op_mul (pv 2) pe_int) (pe_op op_mul pe_int (pv 1))) pe_int)))), ?_⟩
    have c0 : (0 : Int) ≤ cell % 2147483647 := Int.emod_nonneg _ (by decide)
    have c1 : cell % 2147483647 < 2147483647 := Int.emod_lt_of_pos _ (by decide)
    have kk : (0 : Int) ≤ 1009 * k * k ∧ 1009 * k * k ≤ 1009 * 2000000 * 2000000 := by
      have a1 : 0 ≤ 1009 * k := by omega
      have a2 : 1009 * k ≤ 1009 * 2000000 := by omega
      exact ⟨Int.mul_nonneg a1 k0, Int.mul_le_mul a2 (by omega) k0 (by omega)⟩
    refine ⟨_, rfl, _, _, rfl, rfl, (show (0 : Int) < 2147483647 by decide), _, rfl, _, _, rfl, rfl, .inl ⟨by decide, by decide⟩, _, rfl, _, _, rfl, rfl, .inl ⟨by omega, by omega⟩, _, _, rfl, rfl,
      _, rfl, _, _, rfl, rfl, .inl ⟨by decide, by decide⟩, _, _, rfl, rfl, _, _, rfl, rfl, _, _, rfl, rfl, ⟨by decide, ?_⟩, _, _, rfl, rfl, (show (0 : Int) < 2147483647 by decide), ?_⟩
    · generalize hz : cell % 2147483647 + 1009 * k * k + 48611 * k + 17 = z
      have z0 : 0 ≤ z := by omega
      have z1 : z < 2 ^ 64 := by omega
      have hb := intBits_le_64 (k := z) (by omega) z1
      have : (Builtin.Int.intBits z : Int) ≤ 64 := by omega
      omega
    · refine ⟨_, rfl, _, _, rfl, rfl, .inr ⟨by decide, by decide⟩, _, rfl, _, _, rfl, rfl, .inl ⟨by decide, by decide⟩, _, _, rfl, rfl, _, _, rfl, rfl, (show (0 : Int) < 1000000007 by decide), ?_⟩
      exact q _
theorem ok_shared (T : Bt mg) (D : Df K mg "_law_shared" s_l_shared ["_law_one", "_law_other"]) : Kn P w K mg base CX0 "_law_shared" 1 ["_law_one", "_law_other"] spShared := by
  obtain ⟨f, fd, F, hm, hb⟩ := D
  refine ⟨f, fd, F.ok sc_l_shared (fun vs H Q E h => ?_) (fun cdv A outer s H vs Q E hr h => ?_), hm, F.kp, hb⟩
  · obtain ⟨x, y, rfl, _⟩ := h
    rfl
  · obtain ⟨x, y, rfl, q⟩ := h
    refine ⟨_, (pss_cons (ps_while PassesOwn.never (pt_cmpR op_ne (pv 1) pe_int (nomark _)) (pss_one (ps_par (i := 0) (j := 1) (by rfl) sc_l_shared.nd rfl rfl (by decide) rfl rfl (pa_cons (pv 1) (pa_cons (pe_op op_modN (pv 0) (pv 1)) pa_nil)) (by rfl))))
      (pss_one (ps_ret (pe_callB call_abs (by rfl) T.n_abs (by decide +kernel) (pa_cons (pv 0) pa_nil))))), ?_⟩
    refine while_by (fun σ H' => H' = H ∧ ∃ u v : Int, σ = [some (.int u), some (.int v)] ∧ Int.gcd u v = Int.gcd x y) (fun σ _ => match σ with | [_, some (.int v)] => v.natAbs | _ => 0) ⟨rfl, x, y, rfl, rfl⟩ ?_ ?_
    · rintro σ H' ⟨rfl, u, v, rfl, e⟩
      refine ⟨_, rfl, rfl, _, rfl, ?_⟩
      refine ite2 (fun c => ?_) (fun c => ?_)
      · have hv : v ≠ 0 := by
          intro z
          rw [z] at c
          exact absurd c (by decide)
        refine ⟨_, rfl, _, rfl, _, rfl, _, _, rfl, rfl, hv, _, _, rfl, ⟨rfl, _, _, rfl, ?_⟩, ?_⟩
        · rw [gcd_fmod]
          exact e
        · show (u.fmod v).natAbs < v.natAbs
          exact natAbs_fmod_lt hv
      · have hv : v = 0 := by
          by_cases z : v = 0
          · exact z
          · exact absurd (by simp [z]) c
        subst hv
        refine ⟨_, rfl, _, rfl, ?_⟩
        have e2 : (if u < 0 then -u else u) = (Int.gcd x y : Int) := by
          rw [← e, Int.gcd_zero_right]
          omega
        rw [e2]
        exact q
    · intro σ H' Q1 Q2 hq h
      obtain ⟨v, h1, h2, k, h3, h4⟩ := h
      exact ⟨v, h1, h2, k, h3, hq _ _ h4⟩
theorem ok_take (T : Bt mg) (GM : Kn P w K mg base CX0 "_law_mixed" 1 ["_law_cell", "_law_k"] spMixed) (D : Df K mg "_law_take" s_l_take ["_law_box_here", "_law_size"]) :
    Kn P w K mg base CX0 "_law_take" 2 ["_law_box_here", "_law_size"] spTake := by
  obtain ⟨f, fd, F, hm, hb⟩ := D
  obtain ⟨f_l_mixed, fd_l_mixed, G_l_mixed, m_l_mixed, k_l_mixed, b_l_mixed⟩ := GM
  refine ⟨f, fd, F.ok sc_l_take (fun vs H Q E h => ?_) (fun cdv A outer s H vs Q E hr h => ?_), hm, F.kp, hb⟩
  · obtain ⟨b, g, c, n, size, rfl, _⟩ := h
    rfl
  · obtain ⟨b, g, c, n, size, rfl, ⟨gs, cs, cur, m, B, hmn⟩, hn, s0, sB, q⟩ := h
    refine ⟨_, (pss_cons (ps_asg (pe_op op_add (pe_ix ix_list (pv 0) pe_int (fun _ _ => rfl)) pe_int) (pg_sub (pv 0) pe_int set_list))
      (C8.pss_cut (ps_if (PW.pt (pw_and (pt_cmpR op_eq (pe_ix ix_list (pv 0) pe_int (fun _ _ => rfl)) pe_int (nomark _)) (pw_and1 (pt_cmpR op_gt (pe_callB call_len_seq (by rfl) T.n_len (by decide +kernel) (pa_cons (pe_ix ix_list (pv 0) pe_int (fun _ _ => rfl)) pa_nil)) pe_int (nomark _))))) (pss_one (ps_asg (pe_bm PySem.F.plainAttrs_list PySem.F.slot_list_pop PySem.F.type_list_pop mt_popAt (pe_ix ix_list (pv 0) pe_int (fun _ _ => rfl)) (pa_cons pe_int pa_nil)) (pg_sub (pv 0) pe_int set_list))) pss_nil)
      (pss_cons (ps_if (pt_cmpR op_gt (pe_ix ix_list (pv 0) pe_int (fun _ _ => rfl)) pe_int (nomark _)) (pss_cons (ps_set (i := 2) sc_l_take.nd rfl (Or.inl rfl) (pe_op op_mod (pe_ix ix_list (pv 0) pe_int (fun _ _ => rfl)) (pv 1)))
      (pss_cons (ps_asg (pe_op op_fdivW (pe_ix ix_list (pv 0) pe_int (fun _ _ => rfl)) (pv 1)) (pg_sub (pv 0) pe_int set_list))
      (pss_one (ps_ret (pv 2))))) pss_nil)
      (pss_cons (ps_set (i := 3) sc_l_take.nd rfl (Or.inl rfl) (pe_ix ix_list (pe_op op_cat (pe_ix ix_list (pv 0) pe_int (fun _ _ => rfl)) (pe_lst (pa_cons (pe_op op_mul pe_int (pe_ix ix_list (pv 0) pe_int (fun _ _ => rfl))) pa_nil))) (pe_op op_mod (pe_ix ix_list (pv 0) pe_int (fun _ _ => rfl)) (pe_callB (call_max2 rfl) (by rfl) T.n_max (by decide +kernel) (pa_cons pe_int (pa_cons (pe_callB call_len_seq (by rfl) T.n_len (by decide +kernel) (pa_cons (pe_ix ix_list (pv 0) pe_int (fun _ _ => rfl)) pa_nil)) pa_nil)))) (fun _ _ => rfl)))
      (pss_cons (ps_set (i := 2) sc_l_take.nd rfl (Or.inl rfl) pe_int)
      (pss_cons (ps_set (i := 4) sc_l_take.nd rfl (Or.inl rfl) pe_int)
      (pss_cons (ps_while PassesOwn.never (pt_cmpR op_lt (pv 4) (pv 1) (nomark _)) (pss_cons (ps_set (i := 2) sc_l_take.nd rfl (Or.inl rfl) (pe_op op_add (pe_op op_mul (pv 2) pe_int) (pe_call G_l_mixed (hr.mono (by omega)) rfl m_l_mixed k_l_mixed b_l_mixed .nil pass0 (pa_cons (pv 3) (pa_cons (pe_op op_add (pe_ix ix_list (pv 0) pe_int (fun _ _ => rfl)) (pe_op op_mul pe_int (pe_op op_mod (pv 2) pe_int))) pa_nil)))))
      (pss_one (ps_set (i := 4) sc_l_take.nd rfl (Or.inl rfl) (pe_op op_mul (pv 4) pe_int)))))
      (pss_one (ps_ret (pe_op op_mod (pv 2) (pv 1))))))))))), ?_⟩
    have m0 := B.m0
    -- box[3] = box[3] + 1
    refine ⟨_, rfl, b, _, _, .int m, rfl, rfl, SqL.of B.hb, rfl, _, _, rfl, rfl, _, rfl, b, _, _, 3, rfl, rfl, B.hb, rfl, ?_⟩
    have B1 : BoxIs (upd H b (.lst (bl g cur c (m + 1)))) b g c gs cs cur (m + 1) := B.updb (by omega)
    refine ⟨fun σ H2 => σ = start ["_law_box_here", "_law_size", "_law_found", "_law_cell", "_law_reach"] [.ref b, .int size] ∧ But b g H H2 ∧ ∃ gs2 cur2, BoxIs H2 b g c gs2 cs cur2 (m + 1), ?_, ?_⟩
    · -- if box[1] == 0 and len(box[0]) > 0: box[1] = box[0].pop(0)
      refine ⟨_, rfl, b, _, _, .int cur, rfl, rfl, SqL.of B1.hb, rfl, rfl, _, rfl, ?_⟩
      refine ite2 (fun h => ?_) (fun h => ?_)
      · refine ⟨_, rfl, b, _, _, .ref g, rfl, rfl, SqL.of B1.hb, rfl, g, _, rfl, .inl (SqL.of B1.hg), _, _, rfl, rfl, _, rfl, ?_⟩
        refine ite2 (fun h2 => ?_) (fun h2 => ?_)
        · have h3 : (0 : Int) < ((gs.map V.int).length : Nat) := of_decide_eq_true h2
          rw [List.length_map] at h3
          obtain ⟨z, gr, rfl⟩ : ∃ z gr, gs = z :: gr := by
            cases gs with
            | nil => exact absurd h3 (by decide)
            | cons z gr => exact ⟨z, gr, rfl⟩
          have lg := B.lg
          refine ⟨_, rfl, b, _, _, .ref g, rfl, rfl, SqL.of B1.hb, rfl, .inl ⟨rfl, _, SqL.of B1.hg⟩, g, _, 0, 0, .int z, rfl, rfl, B1.hg, by decide, by decide, seqIx0, rfl, ?_⟩
          have B2 : BoxIs (upd (upd H b (.lst (bl g cur c (m + 1)))) g (.lst (gr.map V.int))) b g c gr cs cur (m + 1) := B1.updg (by rw [List.length_cons] at lg; omega)
          refine ⟨_, rfl, b, _, _, 1, rfl, rfl, B2.hb, rfl, ?_⟩
          exact ⟨rfl, (But.updb.trans But.updg).trans But.updb, gr, z, B2.updb (by omega)⟩
        · exact ⟨rfl, But.updb, gs, cur, B1⟩
      · exact ⟨rfl, But.updb, gs, cur, B1⟩
    · rintro σ H2 ⟨rfl, hbut, gs2, cur2, B2⟩
      -- if box[1] > 0
      refine ⟨_, rfl, b, _, _, .int cur2, rfl, rfl, SqL.of B2.hb, rfl, _, _, rfl, rfl, _, rfl, ?_⟩
      refine ite2 (fun h => ?_) (fun h => ?_)
      · refine ⟨_, rfl, b, _, _, .int cur2, rfl, rfl, SqL.of B2.hb, rfl, _, rfl, _, _, rfl, rfl, s0, ?_⟩
        refine ⟨_, rfl, b, _, _, .int cur2, rfl, rfl, SqL.of B2.hb, rfl, _, rfl, _, _, rfl, rfl, wide_div s0 sB (by decide) (by decide), ?_⟩
        refine ⟨_, rfl, b, _, _, 1, rfl, rfl, B2.hb, rfl, ?_⟩
        refine ⟨_, rfl, ?_⟩
        exact q _ _ (Int.emod_nonneg _ (by omega)) (Int.emod_lt_of_pos _ s0) ⟨gs2, cs, _, _, B2.updb (by omega), by omega⟩ (hbut.trans But.updb)
      · -- cell = (box[2] + [7 * box[3]])[box[3] % max(1, len(box[2]))]
        refine ⟨_, rfl, b, _, _, .ref c, rfl, rfl, SqL.of B2.hb, rfl, _, rfl, b, _, _, .int (m + 1), rfl, rfl, SqL.of B2.hb, rfl, _, _, rfl, rfl, .inl ⟨by decide, by decide⟩, (by show 1 ≤ sizeLine; decide), fun p np => ?_⟩
        have s1 := same_new np (.lst [.int (7 * (m + 1))])
        have lc := B.lc
        refine ⟨c, p, _, _, rfl, rfl, s1 _ _ B2.hc, upd_same, (by rw [List.length_map]; show cs.length + 1 ≤ sizeLine; exact Nat.le_of_lt (small1000 (by omega))), fun p2 np2 => ?_⟩
        have s2 := s1.trans (same_new np2 (.lst (cs.map V.int ++ [.int (7 * (m + 1))])))
        refine ⟨_, rfl, b, _, _, .int (m + 1), rfl, rfl, SqL.of (s2 _ _ B2.hb), rfl, _, rfl, b, _, _, .ref c, rfl, rfl, SqL.of (s2 _ _ B2.hb), rfl, c, _, rfl, .inl (SqL.of (s2 _ _ B2.hc)), _, _, rfl, ?_⟩
        have hmx : ((cs.map V.int).length : Int) = cs.length := by rw [List.length_map]
        rw [hmx]
        generalize hM : (if (cs.length : Int) > 1 then (cs.length : Int) else 1) = M
        have M0 : 0 < M := by split at hM <;> omega
        have M1 : M ≤ cs.length + 1 := by split at hM <;> omega
        refine ⟨_, _, rfl, rfl, M0, ?_⟩
        have i0 := Int.emod_nonneg (m + 1) (show M ≠ 0 by omega)
        have i1 := Int.emod_lt_of_pos (m + 1) M0
        obtain ⟨v, hv⟩ : ∃ v : Int, atI (cs.map V.int ++ [.int (7 * (m + 1))]) ((m + 1) % M) = some (.int v) := by
          generalize (m + 1) % M = j at i0 i1
          obtain ⟨k, rfl⟩ : ∃ k : Nat, j = (k : Int) := ⟨j.toNat, by omega⟩
          by_cases hk : k < cs.length
          · exact ⟨cs[k], atI_nat (by rw [List.getElem?_append_left (by rw [List.length_map]; exact hk), List.getElem?_map, List.getElem?_eq_getElem hk]; rfl)⟩
          · have ek : k = cs.length := by omega
            subst ek
            exact ⟨7 * (m + 1), atI_nat (by rw [List.getElem?_append_right (by rw [List.length_map]; exact Nat.le_refl _), List.length_map, Nat.sub_self]; rfl)⟩
        refine ⟨p2, _, _, .int v, rfl, rfl, SqL.of upd_same, hv, ?_⟩
        generalize hH3 : upd (upd H2 p (.lst [.int (7 * (m + 1))])) p2 (.lst (cs.map V.int ++ [.int (7 * (m + 1))])) = H3
        rw [hH3] at s2
        have hb3 : H3 b = some (.lst (bl g cur2 c (m + 1))) := s2 _ _ B2.hb
        -- found = 0; reach = 1; while ..
        refine while_by (fun σ H' => H' = H3 ∧ ∃ u v' : Int, σ = [some (.ref b), some (.int size), some (.int u), some (.int v), some (.int v')] ∧ 1 ≤ v') (fun σ _ => match σ with | [_, _, _, _, some (.int v')] => (size - v').toNat | _ => 0) ⟨rfl, 0, 1, rfl, by decide⟩ ?_ ?_
        · rintro σ H' ⟨rfl, u, v', rfl, hv'⟩
          refine ⟨_, rfl, _, rfl, _, _, rfl, rfl, _, rfl, ?_⟩
          refine ite2 (fun c => ?_) (fun c => ?_)
          · have hlt : v' < size := of_decide_eq_true c
            refine ⟨_, rfl, _, _, rfl, rfl, .inr ⟨by decide, by decide⟩, _, rfl, _, rfl, b, _, _, .int (m + 1), rfl, rfl, SqL.of hb3, rfl, _, rfl, _, _, rfl, rfl, (show (0 : Int) < 89 by decide), _, _, rfl, rfl, .inl ⟨by decide, by decide⟩, _, _, rfl, rfl, ?_⟩
            have f0 := Int.emod_nonneg u (show (89 : Int) ≠ 0 by decide)
            have f1 := Int.emod_lt_of_pos u (show (0 : Int) < 89 by decide)
            refine ⟨_, _, rfl, by omega, by omega, fun r => ?_⟩
            refine ⟨_, _, rfl, rfl, ?_⟩
            refine ⟨_, rfl, _, _, rfl, rfl, .inr ⟨by decide, by decide⟩, ⟨rfl, _, _, rfl, by omega⟩, ?_⟩
            show (size - v' * 1000000007).toNat < (size - v').toNat
            omega
          · refine ⟨_, rfl, _, rfl, _, _, rfl, rfl, s0, ?_⟩
            exact q _ _ (Int.emod_nonneg _ (by omega)) (Int.emod_lt_of_pos _ s0) ⟨gs2, cs, cur2, m + 1, ⟨hb3, s2 _ _ B2.hg, s2 _ _ B2.hc, B2.bg, B2.bc, B2.gc, B2.m0, B2.lg, B2.lc⟩, by omega⟩ (hbut.trans (But.of s2))
        · intro σ H' Q1 Q2 hq h
          obtain ⟨v, h1, v2, h2, i, j, e1, e2, k, e3, h3⟩ := h
          exact ⟨v, h1, v2, h2, i, j, e1, e2, k, e3, hq _ _ h3⟩
end

/-! ### isinstance of a caught error whose own dict stands (or that has none) -/
open PySem.W PySem.Calls PyProof.Rows in
theorem class_of_err {prog : Program} {w : World} {A : Around} {Bad : Value → Shared → Prop} {s : Shared} {K : PySem.W.Frag} {e D : Addr} {oe : Obj} {own : Option Obj} {Want : Option Value → Shared → Prop} (cc : L2.ExcC K D)
    (KI : K.In s.heap) (J : InstAt s.heap e oe D own) (q : Want (some (.ref D)) { s with toks := s.toks + 1 }) : wpAny (model prog w) A (getAttr? (.ref e) "__class__") Want Bad s := by
  have found : findObj K D own "__class__" = some (.bind (.builtin "getset_descriptor.__get__") (.builtin "object.__class__")) := by
    obtain ⟨cd, e0, _⟩ := any_some cc.hd
    unfold findObj
    rw [e0, Option.bind_some, cc.ha, Option.bind_some]
    simp [cc.hn, cc.ht]
  obtain ⟨hp, gs, dr, tk, osx⟩ := s
  have k1 := J.type (M := model prog w)
  have k2 := looks_findIn (M := model prog w) KI cc.hg
  have k3 := looks_findIn (M := model prog w) KI cc.hk
  have k4 := looks_find (M := model prog w) KI J found
  have isB : Looks (model prog w) hp (isInstance (.ref e) (.type "BaseException")) true := k1.andThen (looks_subIn KI cc.hs)
  have n1 : (false && onTheHeap (Value.builtin "BaseException.__getattribute__")) = false := rfl
  have n2 : (onTheHeap (Value.ref D) && Value.builtin "BaseException.__getattribute__" == Value.builtin "object.__getattribute__") = false := by
    rw [show (Value.builtin "BaseException.__getattribute__" == Value.builtin "object.__getattribute__") = false by decide +kernel]
    rfl
  unfold getAttr? getAttrBy? getAttrBy
  refine wpAny_bind (wpAny_mkText (wpAny_bind (wpAny_attempt (wpAny_holding (wpAny_bind (k1.at (wpAny_bind (k2.at ?_))))))))
  show wpAny _ _ (if (onTheHeap (Value.ref D) && Value.builtin "BaseException.__getattribute__" == Value.builtin "object.__getattribute__") = true then _ else _) _ _ _
  rw [n2, if_neg Bool.false_ne_true]
  unfold getAttrByItsOwn hookBefore
  refine wpAny_bind ?_
  rw [if_pos (show onTheHeap (Value.ref D) = true from rfl)]
  refine k3.at (wpAny_bind (wpAny_attempt (wpAny_holding ?_)))
  unfold callGetattribute
  rw [n1, if_neg Bool.false_ne_true]
  unfold boundAndCalled
  rw [PySem.F.excAttr_ValueError.ga.bind (.ref e)]
  refine wpAny_bind (wpAny_pure ?_)
  show wpAny _ _ (call (.builtin "BaseException.__getattribute__") [.ref e, .str "__class__" tk]) _ _ _
  refine wpAny_call (codeAny_call_builtin PySem.F.excAttr_ValueError.ga.plain PySem.F.entry_bexc_ga ?_)
  refine @check_slot (model prog w) _ _ ⟨hp, gs, dr, tk + 1, osx⟩ "BaseException.__getattribute__" "BaseException" "__getattribute__" (.ref e) [.str "__class__" tk] [] _ (by decide +kernel) (by decide +kernel) isB (PySem.F.args_bexc_ga (.ref e) (.str "__class__" tk)) ?_
  unfold Builtin.«object.__getattribute__»
  refine wpAny_bind (wpAny_of_eq (a := ((Value.ref e : Value), [Value.str "__class__" tk])) (by first | rfl | (simp only [slotArgs]; rfl)) ?_)
  refine wpAny_bind (wpAny_pure (wpAny_bind (k1.at (wpAny_bind (k4.at ?_)))))
  show wpAny _ _ (holding [Value.builtin "object.__class__"] (call (.builtin "getset_descriptor.__get__") [.builtin "object.__class__", .ref e, .ref D]) >>= ret) _ _ _
  refine wpAny_bind (wpAny_holding (wpAny_call (class_get (s := ⟨hp, gs, dr, tk + 1, osx⟩) (ox := oe) (od := own) KI J cc.hm ?_)))
  refine wpAny_pure ?_
  show wpAny _ _ (handedOut (.ref D)) _ _ _
  rw [handedOut_of (v := .ref D) rfl]
  first
    | exact wpAny_pure (wpAny_pure q)
    | exact wpAny_pure q
    | exact wpAny_pure (wpAny_bind (wpAny_pure (wpAny_pure q)))
open PySem.W in
theorem kit_err {K : PySem.W.Frag} {e D : Addr} {oe : Obj} {own : Option Obj} (cc : L2.ExcC K D) : KitX K (.ref e) (.ref D) (fun h => InstAt h e oe D own) where
  ty := fun _ _ _ J => J.type
  it := fun _ _ KI _ => by
    obtain ⟨cd, e0, _⟩ := any_some cc.hd
    unfold clsIn at e0
    split at e0
    · rename_i _ _ _ _ at0
      intro _ _ _ _ kk qq
      unfold isType loadHead
      exact wpAny_bind (wpAny_loadPart (kk _ _ (KI _ _ at0)) (wpAny_pure qq))
    · cases e0
  ne := fun h tp dd its n sl KI htp => by
    obtain ⟨cd, e0, _⟩ := any_some cc.hd
    refine Bool.eq_false_iff.mpr fun z => ?_
    have same : D = tp := Value.ref.inj (beq_iff_eq.mp z)
    subst same
    unfold clsIn at e0
    split at e0
    · rename_i _ _ _ _ at0
      have z2 := (KI _ _ at0).symm.trans htp
      cases z2
    · cases e0
  ca := fun KI J kk => class_of_err cc KI J kk
def rIsErr (K : PySem.W.Frag) (D a : Addr) (cls : Value) (d : Option Addr) : List V → Hp → VK → Prop := fun xs H Q => ∃ (c : V) (cv : Value) (b : Bool), xs = [.ref a, c] ∧ cls = .ref D ∧ ClsV c cv ∧ PySem.W.kitOne K (.ref D) cv = some b ∧
  (d = none ∨ ∃ dd fs, d = some dd ∧ H dd = some (.xd fs)) ∧ Q (.bl b) H
theorem call_isErr {X : Cx} {a D : Addr} {oe : Obj} {cls : Value} {d : Option Addr} {pn : List (Addr × Obj)} (cc : ExcC X.K D) (hz : Zc cls d oe) (hf : ∃ vs, oe.data = .fields vs) : CallR (X.suite a ((a, oe) :: pn)) (.builtin "isinstance") (rIsErr X.K D a cls d) := by
  intro pins s σ H xs us Q I r h
  obtain ⟨c, cv, b, rfl, rfl, hcv, e, hd, q⟩ := h
  obtain ⟨u1, u2, rfl, r1, r2⟩ := vals2 r
  cases (show u1 = Value.ref a from r1)
  have e2 := hcv.eq r2
  subst e2
  obtain ⟨at0, _⟩ := I.pin (a, oe) (List.mem_append.mpr (.inl List.mem_cons_self))
  obtain ⟨vs, hv⟩ := hf
  have J : ∃ own, PySem.W.InstAt s.heap a oe D own := by
    rcases hd with rfl | ⟨dd, fs, rfl, hx⟩
    · exact ⟨none, at0, hz.1, by unfold PySem.W.notCls; rw [hv] <;> rfl, by rw [hz.2]; exact True.intro⟩
    · have hx2 : ObjOk X.prog X.w H s.heap dd (.xd fs) := I.hok dd _ hx
      obtain ⟨mA, hns, hr⟩ := hx2
      obtain ⟨od, ho, hl⟩ := lookIn_ns hns
      exact ⟨some od, at0, hz.1, by unfold PySem.W.notCls; rw [hv] <;> rfl, by rw [hz.2]; exact ho⟩
  obtain ⟨own, J⟩ := J
  exact PySem.W.kia_one (kit_err cc) I.kIn J e (fun z => nomatch z) fun tk => ⟨.bl b, H, I.kept (t' := tk) fun _ _ z => z, rfl, q⟩

/-! ### data of any depth -/
def tyN : PyData → String
  | .none => "NoneType" | .bool _ => "bool" | .int _ => "int" | .str _ => "str" | .list _ => "list" | .tuple _ => "tuple" | .dict _ => "dict"
theorem dp_ty {K : PySem.W.Frag} {H : Hp} {v : V} {d : PyData} (h : Dp K H v d) : TyX K H v (.type (tyN d)) := by
  cases h with
  | non => exact .base .non
  | bl b => exact .base (.bl b)
  | int i => exact .base (.int i)
  | str x => exact .base (.str x)
  | lst hs _ =>
    rcases hs with (h | ⟨o, h⟩) | ⟨o, its, n, e, c, _⟩
    · exact .base (.lst h)
    · exact .base (.frz h)
    · exact .kList e c
  | tup hs _ =>
    rcases hs with (h | ⟨o, h⟩) | ⟨o, its, n, e, c, _⟩
    · exact .base (.tup h)
    · exact .fTuple h
    · exact .kTuple e c
theorem cr_isi {X : Cx} {K : PySem.W.Frag} (h : X.K = K) : CallR X (.builtin "isinstance") (rIsi K) := by
  subst h
  exact call_isi
theorem cr_isiT {X : Cx} {K : PySem.W.Frag} (h : X.K = K) : CallR X (.builtin "isinstance") (rIsiT K) := by
  subst h
  exact call_isiT
theorem pg_tupK {X : Cx} {K : PySem.W.Frag} {es : List Expr} {k n : Nat} {pos : Pos} {t : TGs} (hK : X.K = K) (hc : X.calm = true) (h : PGs X es t) (hn : (assignEach es X.env).length = n) (hst : (assignEach es X.env).findIdx? (·.1) = none) : PG X (.Tuple es k pos) (gTup K n t) := by
  subst hK
  exact pg_tup hc h hn hst
theorem walk_zipT {K : PySem.W.Frag} {a b : Addr} {xs ys : List V} {n : Nat} (ex : n = xs.length) (ey : n = ys.length) : Walk (RZ.ItzT K a b) n (fun H => SqT K H a xs ∧ SqT K H b ys) (YPair (fun i => xs[i]?) (fun i => ys[i]?)) where
  goes := fun i _ hi q => ⟨xs, ys, xs[i]'(by omega), ys[i]'(by omega), q.1, q.2, List.getElem?_eq_getElem _, List.getElem?_eq_getElem _⟩
  stops := fun _ q => ⟨xs, ys, q.1, q.2, by omega⟩
  yields := fun i H v H' _ q y => by
    obtain ⟨T, x, z, h1, h2, h3, h4, h5⟩ := y
    exact ⟨T, x, z, h1, h2, h3, h4 xs q.1, h5 ys q.2⟩
theorem isi_of {K : PySem.W.Frag} {H : Hp} {v : V} {d : PyData} {T : String} {r : Bool} {Q : VK} (h : Dp K H v d) (e : kitB (tyN d) T = some r) (q : Q (.bl r) H) : rIsi K [v, .ty T] H Q :=
  ⟨v, .ty T, _, _, r, rfl, .ty T, dp_ty h, kit_ty e, q⟩
def isInt : PyData → Bool | .int _ => true | .bool _ => true | _ => false
def isBool : PyData → Bool | .bool _ => true | _ => false
def isTup : PyData → Bool | .tuple _ => true | _ => false
def isLst : PyData → Bool | .list _ => true | _ => false
def isStr : PyData → Bool | .str _ => true | _ => false
theorem kb_int (d : PyData) : kitB (tyN d) "int" = some (isInt d) := by cases d <;> (dsimp only [tyN, isInt]; decide +kernel)
theorem kb_bool (d : PyData) : kitB (tyN d) "bool" = some (isBool d) := by cases d <;> (dsimp only [tyN, isBool]; decide +kernel)
theorem kb_tup (d : PyData) : kitB (tyN d) "tuple" = some (isTup d) := by cases d <;> (dsimp only [tyN, isTup]; decide +kernel)
theorem kb_lst (d : PyData) : kitB (tyN d) "list" = some (isLst d) := by cases d <;> (dsimp only [tyN, isLst]; decide +kernel)
theorem kb_str (d : PyData) : kitB (tyN d) "str" = some (isStr d) := by cases d <;> (dsimp only [tyN, isStr]; decide +kernel)
theorem same_seqT {K : PySem.W.Frag} {H H' : Hp} {a : Addr} {xs : List V} (e : Same H H') (h : SqT K H a xs) : SqT K H' a xs := by
  rcases h with (h | ⟨o, h⟩) | h
  · exact .inl (.inl (e _ _ h))
  · exact .inl (.inr ⟨o, e _ _ h⟩)
  · exact .inr h
mutual
theorem dp_same {K : PySem.W.Frag} {H H' : Hp} (s : Same H H') : ∀ (d : PyData) (v : V), Dp K H v d → Dp K H' v d
  | .none, _, h => by cases h; exact .non
  | .bool b, _, h => by cases h; exact .bl b
  | .int i, _, h => by cases h; exact .int i
  | .str x, _, h => by cases h; exact .str x
  | .list ds, _, h => by
    cases h with
    | lst hs ha => exact .lst (s.seq hs) (dps_same s ds _ ha)
  | .tuple ds, _, h => by
    cases h with
    | tup hs ha => exact .tup (same_seqT s hs) (dps_same s ds _ ha)
  | .dict _, _, h => by cases h
theorem dps_same {K : PySem.W.Frag} {H H' : Hp} (s : Same H H') : ∀ (ds : List PyData) (vs : List V), DpAll K H vs ds → DpAll K H' vs ds
  | [], _, h => by cases h; exact .nil
  | d :: ds, _, h => by
    cases h with
    | cons h1 h2 => exact .cons (dp_same s d _ h1) (dps_same s ds _ h2)
end
theorem dps_len {K : PySem.W.Frag} {H : Hp} : ∀ {vs : List V} {ds : List PyData}, DpAll K H vs ds → vs.length = ds.length
  | _, _, .nil => rfl
  | _, _, .cons _ t => congrArg (· + 1) (dps_len t)
theorem dps_get {K : PySem.W.Frag} {H : Hp} : ∀ {vs : List V} {ds : List PyData} {i : Nat} {v : V}, DpAll K H vs ds → vs[i]? = some v → ∃ d, ds[i]? = some d ∧ Dp K H v d
  | [], _, i, v, _, h => by simp at h
  | x :: vs, ds, 0, v, a, h => by
    cases a with
    | cons h1 t =>
      have e : x = v := Option.some.inj h
      rw [← e]
      exact ⟨_, rfl, h1⟩
  | x :: vs, ds, i + 1, v, a, h => by
    cases a with
    | cons h1 t => exact dps_get (i := i) t h
/-- the ratio that a value is; the number that it stands for -/
def intOf : PyData → Option Int | .int i => some i | _ => none
def rat2 : List PyData → Option (Int × Int)
  | [a, b] => (match intOf a with
    | some t => (match intOf b with
      | some m => if 1 ≤ m ∧ Int.gcd t m = 1 then some (t, m) else none
      | none => none)
    | none => none)
  | _ => none
def ratOf : PyData → Option (Int × Int)
  | .tuple ds => rat2 ds
  | _ => none
def numOf : PyData → Option (Int × Int)
  | .int i => some (i, 1)
  | d => ratOf d
def isRat (d : PyData) : Bool := (ratOf d).isSome
def wholeD : PyData → Bool | .int _ => true | _ => false
def rat (t m : Int) : PyData := .tuple [.int t, .int m]
theorem dp_rat {K : PySem.W.Frag} {H : Hp} {p : Addr} {t m : Int} (h : H p = some (.tup [.int t, .int m])) : Dp K H (.ref p) (rat t m) := .tup (SqT.of h) (.cons (.int t) (.cons (.int m) .nil))
def spD (K : PySem.W.Frag) (f : PyData → Bool) : Sp := fun vs H Q _ => ∃ (v : V) (d : PyData), vs = [v] ∧ Dp K H v d ∧ ∀ H', Same H H' → Q (.bl (f d)) H'
theorem Kn.mono {P : Program} {w : World} {K : PySem.W.Frag} {mg : Str → Option Value} {base : Heap} {cx : CXT} {x : Str} {j k : Nat} {ps : List Str} {sp : Sp} (h : Kn P w K mg base cx x j ps sp) (l : j ≤ k) : Kn P w K mg base cx x k ps sp := by
  obtain ⟨f, fd, F, a, b, c⟩ := h
  exact ⟨f, fd, F.mono l, a, b, c⟩

/-! ### the program's ratios -/
def CDivWN (_ j : Int) : Prop := j ≠ 0 ∧ j.natAbs.log2 < 9000
theorem op_fdivWN {X : Cx} : OpR X (binaryOp .FloorDiv) (rI CDivWN fun i j => .int (i.fdiv j)) := opI fun _ _ _ _ _ _ _ hc q => PyProof.Rows.floordiv_int hc.1 q (.inl (PyProof.noPylong_of_log2 hc.2))
/-- X() of an own exception class without __init__ -/
theorem pmk_own0 {X : Cx} {C : Addr} {bmB : List Value} {B newId initId : String} {x : Str} {p pos : Pos} (F : ExcBaseFacts B newId initId bmB) (xP : PySem.W.excIn X.K C bmB newId = true) (gP : X.mg x = some (.ref C))
    (kP : PySem.W.keepIn X.K (.ref C) = true) (rP : Raises X (.ref C)) (hg : Gl X x) (hdb : (x == ("__debug__" : Str)) = false := by decide) : PMk X (.Call (.Name x p) [] [] pos) (fun _ H Q => Q (.ref C) none H) := by
  intro pins s σ H Q I want
  refine wpAny_Call_Name_kw (ld_glob I hg gP ?_ hdb)
  refine PySem.W.callWith_K0 I.kIn kP ?_
  show wpAny _ _ (call (.ref C) []) _ _ _
  obtain ⟨bm, N, nm, qn, bs, hdct, sn, sub, ab, col, dd, k0, k1, k2, k3, k5, mN, at0, hN, hni, T⟩ := exc_obj I.kIn xP
  refine wpAny_call_exc_subT F T at0 hN hni (fun h' e made => ?_) (Nat.zero_le _)
  exact mk_of I made rP want (I.hok.gone made.new)
/-- an error class with one field: what is known of it -/
def spErrInit (C : Addr) (fld : Str) : Sp := fun vs H Q _ => ∃ (e : Addr) (v : V), vs = [.ref e, v] ∧ H e = some (exo e C none) ∧ ∀ dx, H dx = none → dx ≠ e → Q .non (upd (upd H dx (exd dx [(fld, v)])) e (exo e C (some dx)))
structure ErrF (P : Program) (w : World) (K : PySem.W.Frag) (mg : Str → Option Value) (base : Heap) (x fld : Str) (C : Addr) : Prop where
  gC : mg x = some (.ref C)
  ox : OexC K C
  xf : XfC K C
  no : PySem.W.findIn K (.ref C) fld = some none
  ec : ExcC K C
  ex : PySem.W.exmOne K (.ref C) (.ref C) = some true
  ini : ∃ fI fdI, PySem.W.findIn K (.ref C) "__init__" = some (some (.ref fI)) ∧ PySem.W.typeIn K (.ref fI) = some (.type "function") ∧ FnOk P w K mg base CX0 1 fI fdI ["self", fld] (spErrInit C fld) ∧ Binds K fdI ["self", fld] []
/-- an error class without fields -/
structure ErrZ (K : PySem.W.Frag) (mg : Str → Option Value) (x : Str) (C : Addr) : Prop where
  gP : mg x = some (.ref C)
  xP : PySem.W.excIn K C [.type "ValueError", .type "Exception", .type "BaseException", .type "object"] "ValueError.__new__" = true
  kP : PySem.W.keepIn K (.ref C) = true
  bP : PySem.W.subIn K (.ref C) (.type "BaseException") = some true
  tP : PySem.W.typeIn K (.ref C) = some (.type "type")
  ec : ExcC K C
  ex : PySem.W.exmOne K (.ref C) (.ref C) = some true
/-- a def with one default, 1 -/
def Df1 (K : PySem.W.Frag) (mg : Str → Option Value) (x : Str) (st : Stmt) (ps : List Str) : Prop :=
  ∃ f fd, FunD K x x (defArgs st) (defBody st) (defScope st) [.int 1] [] f fd ∧ mg x = some (.ref f) ∧ Binds K fd ps [] ∧ ∃ ds, Vals [.int 1] ds ∧ Binds K fd ps ds
def Kn1 (P : Program) (w : World) (K : PySem.W.Frag) (mg : Str → Option Value) (base : Heap) (cx : CXT) (x : Str) (k : Nat) (ps : List Str) (sp : Sp) : Prop :=
  ∃ f fd, FnOk P w K mg base cx k f fd ps sp ∧ mg x = some (.ref f) ∧ PySem.W.keepIn K (.ref f) = true ∧ Binds K fd ps [] ∧ ∃ ds, Vals [.int 1] ds ∧ Binds K fd ps ds
def spAsRatio (K : PySem.W.Frag) (C : Addr) : Sp := fun vs H Q E => ∃ (v : V) (d : PyData), vs = [v] ∧ Dp K H v d ∧ (∀ t m r H', numOf d = some (t, m) → Same H H' → Dp K H' r (rat t m) → Q r H') ∧
  (numOf d = none → ∀ dx H', Same H H' → H' dx = some (.xd [("value", v)]) → E (.ref C) (some dx) H')
/-- top / bottom in lowest terms -/
def nt (t m : Int) : Int := (if m < 0 then -t else t) / (Int.gcd t m : Int)
def nb (t m : Int) : Int := (m.natAbs : Int) / (Int.gcd t m : Int)
theorem gcd_pos {t m : Int} (h : m ≠ 0) : 0 < (Int.gcd t m : Int) := by
  have := Int.gcd_pos_of_ne_zero_right t h
  omega
theorem gcd_le {t m : Int} (h : m ≠ 0) : Int.gcd t m ≤ m.natAbs := Nat.le_of_dvd (by omega) (Nat.gcd_dvd_right t.natAbs m.natAbs)
theorem gcd_log {t m : Int} (h : m ≠ 0) (hB : m.natAbs < 2 ^ 8000) : (Int.gcd t m : Int).natAbs.log2 < 9000 :=
  Nat.lt_trans (PySem.Flt.log2_lt_of (by decide) (show (Int.gcd t m : Int).natAbs < 2 ^ 8000 from Nat.lt_of_le_of_lt (gcd_le h) hB)) (by decide)
theorem nt_pos {t m : Int} (h : ¬ m < 0) (g : 0 < (Int.gcd t m : Int)) : t.fdiv (Int.gcd t m : Int) = nt t m := by
  unfold nt
  rw [if_neg h, Int.fdiv_eq_ediv_of_nonneg _ (by omega)]
theorem nb_pos {t m : Int} (h : ¬ m < 0) (g : 0 < (Int.gcd t m : Int)) : m.fdiv (Int.gcd t m : Int) = nb t m := by
  unfold nb
  rw [Int.fdiv_eq_ediv_of_nonneg _ (by omega), show (m.natAbs : Int) = m by omega]
theorem nt_neg {t m : Int} (h : m < 0) (g : 0 < (Int.gcd t m : Int)) : t.fdiv (-(Int.gcd t m : Int)) = nt t m := by
  unfold nt
  rw [if_pos h, ← Int.fdiv_eq_ediv_of_nonneg _ (by omega), ← Int.neg_fdiv_neg, Int.neg_neg]
theorem nb_neg {t m : Int} (h : m < 0) (g : 0 < (Int.gcd t m : Int)) : m.fdiv (-(Int.gcd t m : Int)) = nb t m := by
  unfold nb
  rw [show (m.natAbs : Int) = -m by omega, ← Int.fdiv_eq_ediv_of_nonneg _ (by omega), ← Int.neg_fdiv_neg, Int.neg_neg]
def spRatio (C : Addr) : Sp := fun vs H Q E => ∃ t m : Int, vs = [.int t, .int m] ∧ (m ≠ 0 → (Int.gcd t m : Int).natAbs.log2 < 9000) ∧ (m ≠ 0 → ∀ p H', Same H H' → H' p = some (.tup [.int (nt t m), .int (nb t m)]) → Q (.ref p) H') ∧ (m = 0 → E (.ref C) none H)
theorem ratOf_is {d : PyData} {z : Int × Int} (h : ratOf d = some z) : d = rat z.1 z.2 := by
  unfold ratOf at h
  split at h
  · unfold rat2 at h
    split at h
    · rename_i a b
      cases a <;> first | cases h | skip
      cases b <;> first | cases h | skip
      rename_i x y
      simp only [intOf] at h
      split at h
      · cases h
        rfl
      · cases h
    · cases h
  · cases h
structure Gt (mg : Str → Option Value) : Prop where
  g_gcd : mg "gcd" = some (.builtin "math.gcd")
section
variable {P : Program} {w : World} {K : PySem.W.Frag} {mg : Str → Option Value} {base : Heap}
theorem ok_is_whole (T : Bt mg) (D : Df K mg "is_whole" s_is_whole ["value"]) : Kn P w K mg base CX0 "is_whole" 1 ["value"] (spD K wholeD) := by
  obtain ⟨f, fd, F, hm, hb⟩ := D
  refine ⟨f, fd, F.ok sc_is_whole (fun vs H Q E h => ?_) (fun cdv A outer s H vs Q E hr h => ?_), hm, F.kp, hb⟩
  · obtain ⟨v, d, rfl, _⟩ := h
    rfl
  · obtain ⟨v, d, rfl, hd, q⟩ := h
    refine ⟨_, (pss_one (ps_ret (pe_and (pe_callB (cr_isi (K := K) rfl) (by rfl) T.n_isinstance (by decide +kernel) (pa_cons (pv 0) (pa_cons (pe_bltn (v := .ty "int") (by rfl) T.n_int (by decide +kernel) rfl) pa_nil))) (pe_one (pe_not (pe_callB (cr_isi (K := K) rfl) (by rfl) T.n_isinstance (by decide +kernel) (pa_cons (pv 0) (pa_cons (pe_bltn (v := .ty "bool") (by rfl) T.n_bool (by decide +kernel) rfl) pa_nil)))))))), ?_⟩
    have q0 := q H (Same.refl H)
    refine ⟨_, rfl, _, _, _, _, _, rfl, .ty _, dp_ty hd, kit_ty (kb_int d), _, rfl, ?_⟩
    refine ite2 (fun c => ?_) (fun c => ?_)
    · refine ⟨_, rfl, _, _, _, _, _, rfl, .ty _, dp_ty hd, kit_ty (kb_bool d), _, rfl, ?_⟩
      have e : (!isBool d) = wholeD d := by cases d <;> first | rfl | cases c
      rw [e]
      exact q0
    · have e : false = wholeD d := by cases d <;> first | rfl | exact absurd rfl c
      rw [e]
      exact q0
theorem ok_is_ratio (T : Bt mg) (Tg : Gt mg) (GW : Kn P w K mg base CX0 "is_whole" 1 ["value"] (spD K wholeD)) (D : Df K mg "is_ratio" s_is_ratio ["value"]) : Kn P w K mg base CX0 "is_ratio" 2 ["value"] (spD K isRat) := by
  obtain ⟨f, fd, F, hm, hb⟩ := D
  obtain ⟨f_is_whole, fd_is_whole, G_is_whole, m_is_whole, k_is_whole, b_is_whole⟩ := GW
  refine ⟨f, fd, F.ok sc_is_ratio (fun vs H Q E h => ?_) (fun cdv A outer s H vs Q E hr h => ?_), hm, F.kp, hb⟩
  · obtain ⟨v, d, rfl, _⟩ := h
    rfl
  · obtain ⟨v, d, rfl, hd, q⟩ := h
    refine ⟨_, (pss_cons (ps_if (PW.pt (pw_or (pt_not (pt_val (pe_callB (cr_isi (K := K) rfl) (by rfl) T.n_isinstance (by decide +kernel) (pa_cons (pv 0) (pa_cons (pe_bltn (v := .ty "tuple") (by rfl) T.n_tuple (by decide +kernel) rfl) pa_nil))))) (pw_or1 (pt_cmpR op_ne (pe_callB call_len_seq (by rfl) T.n_len (by decide +kernel) (pa_cons (pv 0) pa_nil)) pe_int (nomark _))))) (pss_one (ps_ret pe_bl)) pss_nil)
      (pss_cons (ps_asg (pv 0) (pg_tup (by rfl) (pgs_cons (pg_name (i := 1) sc_is_ratio.nd rfl (Or.inl rfl)) (pgs_cons (pg_name (i := 2) sc_is_ratio.nd rfl (Or.inl rfl)) pgs_nil))))
      (pss_cons (ps_if (PW.pt (pw_or (pt_not (pt_val (pe_call G_is_whole (hr.mono (by omega)) rfl m_is_whole k_is_whole b_is_whole .nil pass0 (pa_cons (pv 1) pa_nil)))) (pw_or (pt_not (pt_val (pe_call G_is_whole (hr.mono (by omega)) rfl m_is_whole k_is_whole b_is_whole .nil pass0 (pa_cons (pv 2) pa_nil)))) (pw_or1 (pt_cmpR op_lt (pv 2) pe_int (nomark _)))))) (pss_one (ps_ret pe_bl)) pss_nil)
      (pss_one (ps_ret (pe_cmpR op_eq (pe_callBfun cr_gcd rfl Tg.g_gcd (pa_cons (pv 1) (pa_cons (pv 2) pa_nil))) pe_int (nomark _))))))), ?_⟩
    refine ⟨_, rfl, _, _, _, _, _, rfl, .ty _, dp_ty hd, kit_ty (kb_tup d), _, rfl, ?_⟩
    refine ite2 (fun c => ?_) (fun c => ?_)
    · have e : isRat d = false := by cases d <;> first | rfl | cases c
      have q0 := q H (Same.refl H)
      rw [e] at q0
      exact q0
    · obtain ⟨ds, rfl⟩ : ∃ ds, d = .tuple ds := by cases d <;> first | exact ⟨_, rfl⟩ | exact absurd rfl c
      cases hd with
      | @tup a xs _ hs ha =>
        have hl := dps_len ha
        refine ⟨_, rfl, a, _, rfl, .inr hs, rfl, _, rfl, ?_⟩
        refine ite2 (fun c2 => ?_) (fun c2 => ?_)
        · have e : isRat (.tuple ds) = false := by
            match ds, xs, hl, c2 with
            | [], _, _, _ => rfl
            | [_], _, _, _ => rfl
            | [_, _], xs, hl, c2 =>
              have hl2 : xs.length = 2 := hl
              rw [hl2] at c2
              exact absurd c2 (by decide)
            | _ :: _ :: _ :: _, _, _, _ => rfl
          have q0 := q H (Same.refl H)
          rw [e] at q0
          exact q0
        · have h2 : xs.length = 2 := by
            by_cases z : (xs.length : Int) = 2
            · omega
            · exact absurd (by simp [z]) c2
          obtain ⟨d1, d2, rfl⟩ : ∃ d1 d2, ds = [d1, d2] := by
            rw [h2] at hl
            match ds, hl with
            | [d1, d2], _ => exact ⟨d1, d2, rfl⟩
          cases ha with
          | @cons x1 _ _ _ h1 ha =>
            cases ha with
            | @cons x2 _ _ _ hx2 ha =>
              cases ha
              refine ⟨_, rfl, a, _, rfl, hs, rfl, x1, _, rfl, x2, _, rfl, rfl, ?_⟩
              refine ⟨_, rfl, x1, d1, rfl, h1, fun H1 s1 => ⟨_, rfl, ?_⟩⟩
              refine ite2 (fun c3 => ?_) (fun c3 => ?_)
              · have e : isRat (.tuple [d1, d2]) = false := by cases d1 <;> first | rfl | cases c3
                have q0 := q H1 s1
                rw [e] at q0
                exact q0
              · obtain ⟨t, rfl⟩ : ∃ t, d1 = .int t := by cases d1 <;> first | exact ⟨_, rfl⟩ | exact absurd rfl c3
                refine ⟨_, rfl, x2, d2, rfl, dp_same s1 _ _ hx2, fun H2 s2 => ⟨_, rfl, ?_⟩⟩
                refine ite2 (fun c4 => ?_) (fun c4 => ?_)
                · have e : isRat (.tuple [.int t, d2]) = false := by cases d2 <;> first | rfl | cases c4
                  have q0 := q H2 (s1.trans s2)
                  rw [e] at q0
                  exact q0
                · obtain ⟨m, rfl⟩ : ∃ m, d2 = .int m := by cases d2 <;> first | exact ⟨_, rfl⟩ | exact absurd rfl c4
                  cases h1
                  cases hx2
                  refine ⟨_, rfl, _, _, rfl, rfl, _, rfl, ?_⟩
                  refine ite2 (fun c5 => ?_) (fun c5 => ?_)
                  · have c6 : m < 1 := of_decide_eq_true c5
                    have e : isRat (.tuple [.int t, .int m]) = false := by
                      show (if 1 ≤ m ∧ Int.gcd t m = 1 then some (t, m) else none).isSome = false
                      rw [if_neg (by omega)]
                      rfl
                    have q0 := q H2 (s1.trans s2)
                    rw [e] at q0
                    exact q0
                  · have c6 : ¬ m < 1 := of_decide_eq_false (Bool.eq_false_iff.mpr c5)
                    refine ⟨_, rfl, _, rfl, _, _, rfl, rfl, ?_⟩
                    have e : isRat (.tuple [.int t, .int m]) = decide ((V.int ((Nat.gcd t.natAbs m.natAbs : Nat) : Int)) = V.int 1) := by
                      show (if 1 ≤ m ∧ Int.gcd t m = 1 then some (t, m) else none).isSome = _
                      have g : Int.gcd t m = Nat.gcd t.natAbs m.natAbs := rfl
                      rw [g]
                      by_cases z : Nat.gcd t.natAbs m.natAbs = 1
                      · rw [if_pos ⟨by omega, z⟩, z]
                        rfl
                      · rw [if_neg (fun y => z y.2)]
                        symm
                        apply decide_eq_false
                        intro y
                        injection y with y
                        omega
                    have q0 := q H2 (s1.trans s2)
                    rw [e] at q0
                    exact q0
theorem ok_errinit {x : Str} {C f : Addr} {fd : FuncData} (F : Fun K "__init__" x s_InvalidNumber_init f fd) (ox : OexC K C) (no : PySem.W.findIn K (.ref C) "value" = some none) : FnOk P w K mg base CX0 1 f fd ["self", "value"] (spErrInit C "value") := by
  refine F.ok sc_InvalidNumber_init (fun vs H Q E h => ?_) (fun cdv A outer s H vs Q E hr h => ?_)
  · obtain ⟨e, v, rfl, _⟩ := h
    rfl
  · obtain ⟨e, v, rfl, he, q⟩ := h
    refine ⟨_, pss_one (ps_ost (pv 0) (pv 1)), ?_⟩
    exact ⟨_, rfl, _, rfl, e, C, rfl, ox, no, .inl ⟨he, fun dx h1 h2 => q dx h1 h2⟩⟩
theorem ok_as_ratio {C : Addr} (T : Bt mg) (Ti : ErrF P w K mg base "InvalidNumber" "value" C) (GW : Kn P w K mg base CX0 "is_whole" 1 ["value"] (spD K wholeD)) (GR : Kn P w K mg base CX0 "is_ratio" 2 ["value"] (spD K isRat)) (D : Df K mg "as_ratio" s_as_ratio ["value"]) :
    Kn P w K mg base (L2.CX P w) "as_ratio" 3 ["value"] (spAsRatio K C) := by
  obtain ⟨f, fd, F, hm, hb⟩ := D
  obtain ⟨f_is_whole, fd_is_whole, G_is_whole, m_is_whole, k_is_whole, b_is_whole⟩ := GW
  obtain ⟨f_is_ratio, fd_is_ratio, G_is_ratio, m_is_ratio, k_is_ratio, b_is_ratio⟩ := GR
  obtain ⟨fI, fdI, iC, tI, F1, b1⟩ := Ti.ini
  refine ⟨f, fd, F.okX sc_as_ratio (fun vs H Q E h => ?_) (fun cdv A outer s H vs Q E hr h => ?_), hm, F.kp, hb⟩
  · obtain ⟨v, d, rfl, _⟩ := h
    rfl
  · obtain ⟨v, d, rfl, hd, q1, q2⟩ := h
    refine ⟨_, (pss_cons (ps_if (pt_val (pe_call G_is_whole (hr.mono (by omega)) rfl m_is_whole k_is_whole b_is_whole .nil pass0 (pa_cons (pv 0) pa_nil))) (pss_one (ps_ret (pe_tup (pa_cons (pv 0) (pa_cons pe_int pa_nil))))) pss_nil)
      (pss_cons (ps_if (pt_not (pt_val (pe_call G_is_ratio (hr.mono (by omega)) rfl m_is_ratio k_is_ratio b_is_ratio .nil pass0 (pa_cons (pv 0) pa_nil)))) (pss_one (ps_raise rfl (takes_of rfl rfl rfl rfl) (pmk_oex Ti.ox iC tI F1 (hr.mono (by omega)) b1 .nil pass0 rfl Ti.gC (pa_cons (pv 0) pa_nil)))) pss_nil)
      (pss_one (ps_ret (pv 0))))), ?_⟩
    refine ⟨_, rfl, v, d, rfl, hd, fun H1 s1 => ⟨_, rfl, ?_⟩⟩
    have hd1 := dp_same s1 _ _ hd
    refine ite2 (fun c => ?_) (fun c => ?_)
    · obtain ⟨t, rfl⟩ : ∃ t, d = .int t := by cases d <;> first | exact ⟨_, rfl⟩ | cases c
      cases hd
      refine ⟨_, rfl, (by show 2 ≤ sizeLine; decide), fun p np => ?_⟩
      exact q1 t 1 _ _ rfl (s1.trans (same_new np _)) (dp_rat upd_same)
    · refine ⟨_, rfl, v, d, rfl, hd1, fun H2 s2 => ⟨_, rfl, ?_⟩⟩
      refine ite2 (fun c2 => ?_) (fun c2 => ?_)
      · have e : numOf d = none := by
          cases hr : ratOf d with
          | some z =>
            unfold isRat at c2
            rw [hr] at c2
            cases c2
          | none =>
            cases d <;> first | exact hr | exact absurd rfl c
        refine ⟨_, rfl, (by show 1 ≤ 1000; decide), fun a na => ?_⟩
        refine ⟨a, v, rfl, upd_same, fun dx hdx nx => ⟨rfl, dx, [("value", v)], upd_same, ?_, ?_, ?_⟩⟩
        · rw [upd_ne nx, upd_same]
        · rw [upd_ne nx] at hdx
          exact hdx
        · rw [upd_ne nx] at hdx
          refine q2 e dx _ (s1.trans (s2.trans fun b o hbo => ?_)) upd_same
          have n1 : b ≠ a := ne_of_none hbo na
          have n2 : b ≠ dx := ne_of_none hbo hdx
          rw [upd_ne n2, del_ne n1, upd_ne n1, upd_ne n2, upd_ne n1]
          exact hbo
      · refine ⟨_, rfl, ?_⟩
        obtain ⟨t, m, hr, rfl⟩ : ∃ t m, ratOf d = some (t, m) ∧ d = rat t m := by
          cases hr : ratOf d with
          | none =>
            unfold isRat at c2
            rw [hr] at c2
            exact absurd rfl c2
          | some z => exact ⟨z.1, z.2, rfl, ratOf_is hr⟩
        exact q1 t m _ _ hr (s1.trans s2) (dp_same s2 _ _ hd1)
end

/-! ### the law's own draws and checks -/
theorem map_get {ns : List Int} {i : Nat} {x : V} (h : (ns.map V.int)[i]? = some x) : ∃ z, ns[i]? = some z ∧ x = V.int z := by
  rw [List.getElem?_map] at h
  cases e : ns[i]? with
  | none =>
    rw [e] at h
    cases h
  | some z =>
    rw [e] at h
    exact ⟨z, rfl, (Option.some.inj h).symm⟩
theorem take_more {α : Type} : ∀ {l : List α} {i : Nat} {x : α}, l[i]? = some x → l.take (i + 1) = l.take i ++ [x]
  | [], i, x, h => by simp at h
  | a :: l, 0, x, h => by
    have e := Option.some.inj h
    subst e
    rfl
  | a :: l, i + 1, x, h => congrArg (a :: ·) (take_more (l := l) (i := i) h)
theorem same_upd {H H1 : Hp} {D : Addr} {o : HO} (s : Same H H1) (h : H D = none) : Same H (upd H1 D o) := fun b u q => by
  rw [upd_ne (ne_of_none q h)]
  exact s _ _ q
theorem get_lt {α : Type} {l : List α} {i : Nat} {x : α} (h : l[i]? = some x) : i < l.length := (List.getElem?_eq_some_iff.mp h).1
/-- an item of a list at a drawn place -/
theorem at_lt {xs : List V} {r : Int} (h0 : 0 ≤ r) (h1 : r < xs.length) : ∃ v, v ∈ xs ∧ atI xs r = some v := by
  obtain ⟨k, rfl⟩ : ∃ k : Nat, r = (k : Int) := ⟨r.toNat, by omega⟩
  have hk : k < xs.length := by omega
  exact ⟨xs[k], List.getElem_mem hk, atI_nat (List.getElem?_eq_getElem hk)⟩
def mk (b g : Addr) (H : Hp) : Hp := fun a => if a = b ∨ a = g then none else H a
theorem mk_sub (b g : Addr) (H : Hp) : Same (mk b g H) H := fun a o h => by
  unfold mk at h
  split at h
  · cases h
  · exact h
theorem mk_but {b g : Addr} {H H' : Hp} (x : But b g H H') : Same (mk b g H) (mk b g H') := fun a o h => by
  unfold mk at h ⊢
  split at h
  · cases h
  · rename_i z
    rw [if_neg z]
    exact x a o h (fun y => z (.inl y)) (fun y => z (.inr y))
theorem mk_new {H : Hp} {b g c p : Addr} {n : Nat} {o : HO} (B : Box H b g c n) (np : H p = none) : mk b g (upd H p o) p = some o := by
  obtain ⟨gs, cs, cur, m, B, _⟩ := B
  unfold mk
  rw [if_neg (fun y => y.elim (fun e => by rw [e, B.hb] at np; cases np) (fun e => by rw [e, B.hg] at np; cases np)), upd_same]
theorem mk_tup {H : Hp} {b g c p : Addr} {n : Nat} {xs : List V} (B : Box H b g c n) (h : H p = some (.tup xs)) : mk b g H p = some (.tup xs) := by
  obtain ⟨gs, cs, cur, m, B, _⟩ := B
  unfold mk
  rw [if_neg (fun y => y.elim (fun e => by rw [e, B.hb] at h; cases h) (fun e => by rw [e, B.hg] at h; cases h)), h]
theorem But.tup {H H' : Hp} {b g c p : Addr} {n : Nat} {xs : List V} (x : But b g H H') (B : Box H b g c n) (h : H p = some (.tup xs)) : H' p = some (.tup xs) := by
  obtain ⟨gs, cs, cur, m, B, _⟩ := B
  exact x p _ h (fun e => by rw [e, B.hb] at h; cases h) (fun e => by rw [e, B.hg] at h; cases h)
def spLRatio : Sp := fun vs H Q _ => ∃ t m : Int, vs = [.int t, .int m] ∧ m ≠ 0 ∧ m.natAbs < 2 ^ 8000 ∧ ∀ p H', Same H H' → H' p = some (.tup [.int (nt t m), .int (nb t m)]) → Q (.ref p) H'
section
variable {P : Program} {w : World} {K : PySem.W.Frag} {mg : Str → Option Value} {base : Heap}
theorem ok_box (D : Df K mg "_law_box" s_l_box ["_law_script"]) : Kn P w K mg base CX0 "_law_box" 1 ["_law_script"] (spBox K) := by
  obtain ⟨f, fd, F, hm, hb⟩ := D
  refine ⟨f, fd, F.ok sc_l_box (fun vs H Q E h => ?_) (fun cdv A outer s H vs Q E hr h => ?_), hm, F.kp, hb⟩
  · obtain ⟨a, ns, rfl, _⟩ := h
    rfl
  · obtain ⟨a, ns, rfl, hS, hl, q⟩ := h
    refine ⟨_, (pss_cons (ps_setLc (i := 1) (own := [("_law_cell", 2)]) rfl sc_l_box.nd rfl rfl (sw_true rfl rfl rfl (by decide +kernel)) (pi_list (pv 0)) (blkOk_by (N := ["_law_script", "_law_great", "_law_cell"]) (sc := defScope s_l_box) (by decide +kernel)) (fun _ _ _ _ _ => (pg_name (i := 2) sc_l_box.nd rfl (Or.inl rfl))) (fun _ _ _ _ _ => (pts_one (pt_cmpR op_ge (pv 2) (pe_op op_powB pe_int pe_int) (nomark _)))) (fun _ _ _ _ _ => (pv 2)))
      (pss_one (ps_ret (pe_lst (pa_cons (pv 1) (pa_cons pe_int (pa_cons (pe_lc (own := [("_law_cell", 2)]) rfl sc_l_box.nd (pi_list (pv 0)) (blkOk_by (N := ["_law_script", "_law_great", "_law_cell"]) (sc := defScope s_l_box) (by decide +kernel)) (fun _ _ _ _ _ => (pg_name (i := 2) sc_l_box.nd rfl (Or.inl rfl))) (fun _ _ _ _ _ => (pts_one (pt_cmpR op_lt (pv 2) (pe_op op_powB pe_int pe_int) (nomark _)))) (fun _ _ _ _ _ => (pv 2))) (pa_cons pe_int pa_nil)))))))), ?_⟩
    refine ⟨_, rfl, a, rfl, ⟨_, hS⟩, fun D hD => ?_⟩
    refine lc_list (K := K) (a := a) (xs := ns.map V.int) (fun i H' => Same H H' ∧ ∃ acc : List Int, H' D = some (.lst (acc.map V.int)) ∧ acc.length ≤ i) ⟨same_new hD _, [], upd_same, Nat.le_refl _⟩ (fun i H' _ h => h.1.seq hS) ?_ ?_
    · rintro i x H1 hx ⟨s1, acc, hacc, hlen⟩
      obtain ⟨z, hz, rfl⟩ := map_get hx
      have hi := get_lt hz
      refine ⟨rfl, _, rfl, _, _, rfl, rfl, ⟨by decide, by decide +kernel⟩, _, _, rfl, rfl, _, rfl, ?_⟩
      refine ite2 (fun _ => ?_) (fun _ => ?_)
      · refine ⟨_, rfl, _, hacc, (by rw [List.length_map]; exact small1000 (by omega)), same_upd s1 hD, acc ++ [z], (by rw [upd_same, List.map_append]; rfl), by rw [List.length_append]; exact Nat.succ_le_succ hlen⟩
      · exact ⟨s1, acc, hacc, by omega⟩
    · rintro H1 ⟨s1, gs, hg, hgl⟩
      rw [List.length_map] at hgl
      refine ⟨_, rfl, _, rfl, a, rfl, ⟨_, s1.seq hS⟩, fun D2 hD2 => ?_⟩
      refine lc_list (K := K) (a := a) (xs := ns.map V.int) (fun i H' => Same H1 H' ∧ ∃ acc : List Int, H' D2 = some (.lst (acc.map V.int)) ∧ acc.length ≤ i) ⟨same_new hD2 _, [], upd_same, Nat.le_refl _⟩ (fun i H' _ h => (s1.trans h.1).seq hS) ?_ ?_
      · rintro i x H2 hx ⟨s2, acc, hacc, hlen⟩
        obtain ⟨z, hz, rfl⟩ := map_get hx
        have hi := get_lt hz
        refine ⟨rfl, _, rfl, _, _, rfl, rfl, ⟨by decide, by decide +kernel⟩, _, _, rfl, rfl, _, rfl, ?_⟩
        refine ite2 (fun _ => ?_) (fun _ => ?_)
        · refine ⟨_, rfl, _, hacc, (by rw [List.length_map]; exact small1000 (by omega)), same_upd s2 hD2, acc ++ [z], (by rw [upd_same, List.map_append]; rfl), by rw [List.length_append]; exact Nat.succ_le_succ hlen⟩
        · exact ⟨s2, acc, hacc, by omega⟩
      · rintro H2 ⟨s2, cs, hc, hcl⟩
        rw [List.length_map] at hcl
        refine ⟨(by show 4 ≤ sizeLine; decide), fun p np => ?_⟩
        have hg2 := s2 _ _ hg
        have n1 : p ≠ D := (ne_of_none hg2 np).symm
        have n2 : p ≠ D2 := (ne_of_none hc np).symm
        have n3 : D ≠ D2 := ne_of_none hg hD2
        refine q p D D2 _ ⟨gs, cs, 0, 0, ⟨upd_same, by rw [upd_ne n1.symm]; exact hg2, by rw [upd_ne n2.symm]; exact hc, n1, n2, n3, by decide, by omega, by omega⟩, by decide⟩ ((s1.trans s2).trans (same_new np _)) ((s1.trans s2).free np) hD (s1.free hD2)
theorem ok_lratio (GS : Kn P w K mg base CX0 "_law_shared" 1 ["_law_one", "_law_other"] spShared) (D : Df K mg "_law_ratio" s_l_ratio ["_law_top", "_law_bottom"]) : Kn P w K mg base CX0 "_law_ratio" 2 ["_law_top", "_law_bottom"] spLRatio := by
  obtain ⟨f, fd, F, hm, hb⟩ := D
  obtain ⟨f_l_shared, fd_l_shared, G_l_shared, m_l_shared, k_l_shared, b_l_shared⟩ := GS
  refine ⟨f, fd, F.ok sc_l_ratio (fun vs H Q E h => ?_) (fun cdv A outer s H vs Q E hr h => ?_), hm, F.kp, hb⟩
  · obtain ⟨t, m, rfl, _⟩ := h
    rfl
  · obtain ⟨t, m, rfl, h0, hB, q⟩ := h
    refine ⟨_, (C8.pss_cut (ps_if (pt_cmpR op_lt (pv 1) pe_int (nomark _)) (pss_one (ps_par (i := 0) (j := 1) (by rfl) sc_l_ratio.nd rfl rfl (by decide) rfl rfl (pa_cons (pe_op op_sub pe_int (pv 0)) (pa_cons (pe_op op_sub pe_int (pv 1)) pa_nil)) (by rfl))) pss_nil)
      (pss_cons (ps_set (i := 2) sc_l_ratio.nd rfl (Or.inl rfl) (pe_call G_l_shared (hr.mono (by omega)) rfl m_l_shared k_l_shared b_l_shared .nil pass0 (pa_cons (pv 0) (pa_cons (pv 1) pa_nil))))
      (pss_one (ps_ret (pe_tup (pa_cons (pe_op op_fdivW (pv 0) (pv 2)) (pa_cons (pe_op op_fdivW (pv 1) (pv 2)) pa_nil))))))), ?_⟩
    refine ⟨fun σ H' => H' = H ∧ σ = [some (.int (if m < 0 then -t else t)), some (.int (m.natAbs : Int)), none], ?_, ?_⟩
    · refine ⟨_, rfl, _, _, rfl, rfl, _, rfl, ?_⟩
      refine ite2 (fun c => ?_) (fun c => ?_)
      · have c3 : m < 0 := of_decide_eq_true c
        refine ⟨_, rfl, _, _, rfl, rfl, _, rfl, _, _, rfl, rfl, _, _, rfl, rfl, ?_⟩
        rw [if_pos c3, show -t = 0 - t by omega, show (m.natAbs : Int) = 0 - m by omega]
        rfl
      · have c3 : ¬ m < 0 := of_decide_eq_false (Bool.eq_false_iff.mpr c)
        refine ⟨rfl, ?_⟩
        rw [if_neg c3, show (m.natAbs : Int) = m by omega]
        rfl
    · rintro σ H' ⟨rfl, rfl⟩
      have e : (Int.gcd (if m < 0 then -t else t) (m.natAbs : Int) : Int) = (Int.gcd t m : Int) := by
        unfold Int.gcd
        split <;> simp
      refine ⟨_, rfl, _, rfl, _, _, rfl, ?_⟩
      rw [e]
      have gp := gcd_pos (t := t) h0
      have gB : (Int.gcd t m : Int).natAbs < 2 ^ 8000 := Nat.lt_of_le_of_lt (gcd_le h0) hB
      refine ⟨_, rfl, _, rfl, _, _, rfl, rfl, wide_div gp gB (by decide) (by decide), _, rfl, _, rfl, _, _, rfl, rfl, wide_div gp gB (by decide) (by decide), (by show 2 ≤ sizeLine; decide), fun p np => ?_⟩
      exact q p _ (same_new np _) upd_same
end

section
variable {P : Program} {w : World} {K : PySem.W.Frag} {mg : Str → Option Value} {base : Heap}
theorem ok_lis_ratio (T : Bt mg) (GS : Kn P w K mg base CX0 "_law_shared" 1 ["_law_one", "_law_other"] spShared) (D : Df K mg "_law_is_ratio" s_l_is_ratio ["_law_value"]) : Kn P w K mg base CX0 "_law_is_ratio" 2 ["_law_value"] (spD K isRat) := by
  obtain ⟨f, fd, F, hm, hb⟩ := D
  obtain ⟨f_l_shared, fd_l_shared, G_l_shared, m_l_shared, k_l_shared, b_l_shared⟩ := GS
  refine ⟨f, fd, F.ok sc_l_is_ratio (fun vs H Q E h => ?_) (fun cdv A outer s H vs Q E hr h => ?_), hm, F.kp, hb⟩
  · obtain ⟨v, d, rfl, _⟩ := h
    rfl
  · obtain ⟨v, d, rfl, hd, q⟩ := h
    refine ⟨_, (pss_cons (ps_if (PW.pt (pw_or (pt_not (pt_val (pe_callB (cr_isi (K := K) rfl) (by rfl) T.n_isinstance (by decide +kernel) (pa_cons (pv 0) (pa_cons (pe_bltn (v := .ty "tuple") (by rfl) T.n_tuple (by decide +kernel) rfl) pa_nil))))) (pw_or1 (pt_cmpR op_ne (pe_callB call_len_seq (by rfl) T.n_len (by decide +kernel) (pa_cons (pv 0) pa_nil)) pe_int (nomark _))))) (pss_one (ps_ret pe_bl)) pss_nil)
      (pss_cons (ps_if (pt_val (pe_callB (cr_any rfl) (by rfl) T.n_any (by decide +kernel) (pa_cons (pe_lc (own := [("_law_part", 1)]) rfl sc_l_is_ratio.nd (pi_tup (pv 0)) (blkOk_by (N := ["_law_value", "_law_part"]) (sc := defScope s_l_is_ratio) (by decide +kernel)) (fun _ _ _ _ _ => (pg_name (i := 1) sc_l_is_ratio.nd rfl (Or.inl rfl))) (fun _ _ _ _ _ => pts_nil) (fun _ _ _ _ _ => (pe_or (pe_callB (cr_isi (K := K) rfl) (by rfl) T.n_isinstance (by decide +kernel) (pa_cons (pv 1) (pa_cons (pe_bltn (v := .ty "bool") (by rfl) T.n_bool (by decide +kernel) rfl) pa_nil))) (pe_one (pe_not (pe_callB (cr_isi (K := K) rfl) (by rfl) T.n_isinstance (by decide +kernel) (pa_cons (pv 1) (pa_cons (pe_bltn (v := .ty "int") (by rfl) T.n_int (by decide +kernel) rfl) pa_nil)))))))) pa_nil))) (pss_one (ps_ret pe_bl)) pss_nil)
      (pss_one (ps_ret (pe_and (pe_cmpR op_gt (pe_ix ix_tup (pv 0) pe_int (fun _ _ => rfl)) pe_int (nomark _)) (pe_one (pe_cmpR op_eq (pe_call G_l_shared (hr.mono (by omega)) rfl m_l_shared k_l_shared b_l_shared .nil pass0 (pa_cons (pe_ix ix_tup (pv 0) pe_int (fun _ _ => rfl)) (pa_cons (pe_ix ix_tup (pv 0) pe_int (fun _ _ => rfl)) pa_nil))) pe_int (nomark _)))))))), ?_⟩
    refine ⟨_, rfl, _, _, _, _, _, rfl, .ty _, dp_ty hd, kit_ty (kb_tup d), _, rfl, ?_⟩
    refine ite2 (fun c => ?_) (fun c => ?_)
    · have e : isRat d = false := by cases d <;> first | rfl | cases c
      have q0 := q H (Same.refl H)
      rw [e] at q0
      exact q0
    · obtain ⟨ds, rfl⟩ : ∃ ds, d = .tuple ds := by cases d <;> first | exact ⟨_, rfl⟩ | exact absurd rfl c
      cases hd with
      | @tup a xs _ hs ha =>
        have hl := dps_len ha
        refine ⟨_, rfl, a, _, rfl, .inr hs, rfl, _, rfl, ?_⟩
        refine ite2 (fun c2 => ?_) (fun c2 => ?_)
        · have e : isRat (.tuple ds) = false := by
            match ds, xs, hl, c2 with
            | [], _, _, _ => rfl
            | [_], _, _, _ => rfl
            | [_, _], xs, hl, c2 =>
              have hl2 : xs.length = 2 := hl
              rw [hl2] at c2
              exact absurd c2 (by decide)
            | _ :: _ :: _ :: _, _, _, _ => rfl
          have q0 := q H (Same.refl H)
          rw [e] at q0
          exact q0
        · have h2 : xs.length = 2 := by
            by_cases z : (xs.length : Int) = 2
            · omega
            · exact absurd (by simp [z]) c2
          obtain ⟨d1, d2, rfl⟩ : ∃ d1 d2, ds = [d1, d2] := by
            rw [h2] at hl
            match ds, hl with
            | [d1, d2], _ => exact ⟨d1, d2, rfl⟩
          refine ⟨_, rfl, a, rfl, ⟨_, hs⟩, fun D hD => ?_⟩
          refine lc_tup (K := K) (a := a) (xs := xs) (fun i H' => Same H H' ∧ H' D = some (.lst ((([d1, d2].take i).map fun d => !wholeD d).map V.bl))) ⟨same_new hD _, upd_same⟩ (fun i H' _ h => same_seqT h.1 hs) ?_ ?_
          · rintro i x H1 hx ⟨s1, hacc⟩
            obtain ⟨d, hd, hx2⟩ := dps_get ha hx
            have hx3 := dp_same s1 _ _ hx2
            have key : ∀ b : Bool, b = (!wholeD d) → ∃ acc, H1 D = some (.lst acc) ∧ acc.length < sizeLine ∧ Same H (upd H1 D (.lst (acc ++ [V.bl b]))) ∧ (upd H1 D (.lst (acc ++ [V.bl b]))) D = some (.lst ((([d1, d2].take (i + 1)).map fun d => !wholeD d).map V.bl)) := by
              intro b hb
              refine ⟨_, hacc, ?_, same_upd s1 hD, ?_⟩
              · rw [List.length_map, List.length_map, List.length_take]
                exact small1000 (Nat.le_trans (Nat.min_le_right _ _) (by decide : 2 ≤ 1000))
              · rw [upd_same, hb, take_more hd, List.map_append, List.map_append]
                rfl
            refine ⟨rfl, ?_⟩
            refine ⟨_, rfl, _, _, _, _, _, rfl, .ty _, dp_ty hx3, kit_ty (kb_bool d), _, rfl, ?_⟩
            refine ite2 (fun c3 => ?_) (fun c3 => ?_)
            · exact key true (by cases d <;> first | rfl | cases c3)
            · refine ⟨_, rfl, _, _, _, _, _, rfl, .ty _, dp_ty hx3, kit_ty (kb_int d), _, rfl, ?_⟩
              exact key _ (by cases d <;> first | rfl | exact absurd rfl c3)
          · rintro H1 ⟨s1, hacc⟩
            rw [h2] at hacc
            refine ⟨D, _, rfl, SqL.of hacc, _, rfl, ?_⟩
            cases ha with
            | @cons x1 _ _ _ h1 ha =>
              cases ha with
              | @cons x2 _ _ _ hx2 ha =>
                cases ha
                refine ite2 (fun c3 => ?_) (fun c3 => ?_)
                · have e : isRat (.tuple [d1, d2]) = false := by
                    cases d1 <;> first | rfl | skip
                    cases d2 <;> first | rfl | cases c3
                  have q0 := q H1 s1
                  rw [e] at q0
                  exact q0
                · obtain ⟨t, rfl⟩ : ∃ t, d1 = .int t := by cases d1 <;> first | exact ⟨_, rfl⟩ | exact absurd rfl c3
                  obtain ⟨m, rfl⟩ : ∃ m, d2 = .int m := by cases d2 <;> first | exact ⟨_, rfl⟩ | exact absurd rfl c3
                  cases h1
                  cases hx2
                  have hs1 := same_seqT s1 hs
                  refine ⟨_, rfl, a, _, _, .int m, rfl, rfl, hs1, rfl, _, _, rfl, rfl, _, rfl, ?_⟩
                  have q0 := q H1 s1
                  refine ite2 (fun c5 => ?_) (fun c5 => ?_)
                  · have c6 : m > 0 := of_decide_eq_true c5
                    refine ⟨_, rfl, a, _, _, .int t, rfl, rfl, hs1, rfl, _, rfl, a, _, _, .int m, rfl, rfl, hs1, rfl, _, _, rfl, ?_⟩
                    have e : isRat (.tuple [.int t, .int m]) = decide (V.int (Int.gcd t m : Int) = V.int 1) := by
                      show (if 1 ≤ m ∧ Int.gcd t m = 1 then some (t, m) else none).isSome = _
                      by_cases z : Int.gcd t m = 1
                      · rw [if_pos ⟨by omega, z⟩, z]
                        rfl
                      · rw [if_neg (fun y => z y.2)]
                        symm
                        apply decide_eq_false
                        intro y
                        injection y with y
                        omega
                    rw [e] at q0
                    exact ⟨rfl, q0⟩
                  · have c6 : ¬ m > 0 := of_decide_eq_false (Bool.eq_false_iff.mpr c5)
                    have e : isRat (.tuple [.int t, .int m]) = false := by
                      show (if 1 ≤ m ∧ Int.gcd t m = 1 then some (t, m) else none).isSome = false
                      rw [if_neg (by omega)]
                      rfl
                    rw [e] at q0
                    exact q0
end

/-! ### ratios in lowest terms -/
structure Red (z : Int × Int) : Prop where
  pos : 0 < z.2
  co : Int.gcd z.1 z.2 = 1
def nrm (t m : Int) : Int × Int := (nt t m, nb t m)
theorem gcd_abs (t m : Int) : Int.gcd (if m < 0 then -t else t) (m.natAbs : Int) = Int.gcd t m := by
  unfold Int.gcd
  split <;> simp
theorem nrm_red {t m : Int} (h : m ≠ 0) : Red (nrm t m) := by
  have gp := gcd_pos (t := t) h
  have e := gcd_abs t m
  refine ⟨?_, ?_⟩
  · show 0 < (m.natAbs : Int) / (Int.gcd t m : Int)
    have d : (Int.gcd t m : Int) ∣ (m.natAbs : Int) := Int.natAbs_dvd_natAbs.mp (by simp [Int.gcd]; exact Nat.gcd_dvd_right _ _)
    have c := Int.ediv_mul_cancel d
    have z : (m.natAbs : Int) / (Int.gcd t m : Int) ≠ 0 := fun q => by
      rw [q] at c
      omega
    have z2 : 0 ≤ (m.natAbs : Int) / (Int.gcd t m : Int) := Int.ediv_nonneg (by omega) (by omega)
    omega
  · show Int.gcd ((if m < 0 then -t else t) / (Int.gcd t m : Int)) ((m.natAbs : Int) / (Int.gcd t m : Int)) = 1
    rw [← e]
    exact Int.gcd_ediv_gcd_ediv_gcd (by rw [e]; omega)
theorem nrm_cross {t m : Int} (h : m ≠ 0) : (nrm t m).1 * m = t * (nrm t m).2 := by
  have d1 : (Int.gcd t m : Int) ∣ t := Int.gcd_dvd_left ..
  have d2 : (Int.gcd t m : Int) ∣ m := Int.gcd_dvd_right ..
  obtain ⟨a, ha⟩ := d1
  obtain ⟨b, hb⟩ := d2
  have gp := gcd_pos (t := t) h
  have e1 : (nrm t m).1 = (if m < 0 then -a else a) := by
    show (if m < 0 then -t else t) / (Int.gcd t m : Int) = _
    generalize (Int.gcd t m : Int) = g at *
    subst ha
    split
    · rw [show -(g * a) = g * (-a) by grind, Int.mul_ediv_cancel_left _ (by omega)]
    · rw [Int.mul_ediv_cancel_left _ (by omega)]
  have e2 : (nrm t m).2 = (if m < 0 then -b else b) := by
    show (m.natAbs : Int) / (Int.gcd t m : Int) = _
    have z : (m.natAbs : Int) = if m < 0 then -m else m := by split <;> omega
    rw [z]
    clear z
    generalize (Int.gcd t m : Int) = g at *
    clear ha e1
    split
    · rw [hb, show -(g * b) = g * (-b) by grind, Int.mul_ediv_cancel_left _ (by omega)]
    · rw [hb, Int.mul_ediv_cancel_left _ (by omega)]
  rw [e1, e2]
  generalize (Int.gcd t m : Int) = g at *
  split <;> (rename_i w; clear e1 e2 w h gp; subst ha; subst hb; grind)
theorem red_uniq {a b : Int × Int} (ha : Red a) (hb : Red b) (e : a.1 * b.2 = b.1 * a.2) : a = b := by
  have pa := ha.pos
  have pb := hb.pos
  have e' : a.1.natAbs * b.2.natAbs = b.1.natAbs * a.2.natAbs := by rw [← Int.natAbs_mul, ← Int.natAbs_mul, e]
  have c1 : Nat.Coprime a.2.natAbs a.1.natAbs := Nat.Coprime.symm ha.co
  have c2 : Nat.Coprime b.2.natAbs b.1.natAbs := Nat.Coprime.symm hb.co
  have d1 : a.2.natAbs ∣ b.2.natAbs := c1.dvd_of_dvd_mul_left ⟨b.1.natAbs, by rw [e', Nat.mul_comm]⟩
  have d2 : b.2.natAbs ∣ a.2.natAbs := c2.dvd_of_dvd_mul_left ⟨a.1.natAbs, by rw [← e', Nat.mul_comm]⟩
  have e2 : a.2 = b.2 := by
    have z := Nat.dvd_antisymm d1 d2
    omega
  have e1 : a.1 = b.1 := Int.eq_of_mul_eq_mul_right (a := b.2) (by omega) (by rw [e, e2])
  exact Prod.ext e1 e2
theorem nrm_eq {t m t' m' : Int} (h : m ≠ 0) (h' : m' ≠ 0) (e : t * m' = t' * m) : nrm t m = nrm t' m' := by
  have x := nrm_cross (t := t) h
  have y := nrm_cross (t := t') h'
  refine red_uniq (nrm_red h) (nrm_red h') ?_
  refine Int.eq_of_mul_eq_mul_right (a := m * m') (Int.mul_ne_zero h h') ?_
  generalize (nrm t m).1 = a at *
  generalize (nrm t m).2 = b at *
  generalize (nrm t' m').1 = c at *
  generalize (nrm t' m').2 = d at *
  clear h h'
  grind
theorem nrm_of {z : Int × Int} (h : Red z) : nrm z.1 z.2 = z := by
  have p := h.pos
  have x := nrm_cross (t := z.1) (m := z.2) (by omega)
  exact red_uniq (nrm_red (by omega)) h x
theorem nrm_is {t m : Int} {z : Int × Int} (h : m ≠ 0) (hz : Red z) (e : t * z.2 = z.1 * m) : nrm t m = z := by
  have p := hz.pos
  rw [← nrm_of hz]
  exact nrm_eq h (by omega) e
theorem nt_le (t m : Int) : (nrm t m).1.natAbs ≤ t.natAbs := by
  show ((if m < 0 then -t else t) / (Int.gcd t m : Int)).natAbs ≤ t.natAbs
  refine Nat.le_trans (Int.natAbs_ediv_le_natAbs _ _) ?_
  split <;> omega
theorem nb_le (t m : Int) : (nrm t m).2.natAbs ≤ m.natAbs := by
  show ((m.natAbs : Int) / (Int.gcd t m : Int)).natAbs ≤ m.natAbs
  exact Nat.le_trans (Int.natAbs_ediv_le_natAbs _ _) (by omega)
/-- both parts are below 2 ^ k -/
def Sz (k : Nat) (z : Int × Int) : Prop := z.1.natAbs < 2 ^ k ∧ z.2.natAbs < 2 ^ k
theorem Sz.mono {j k : Nat} {z : Int × Int} (h : Sz j z) (l : j ≤ k) : Sz k z :=
  ⟨Nat.lt_of_lt_of_le h.1 (Nat.pow_le_pow_right (by decide) l), Nat.lt_of_lt_of_le h.2 (Nat.pow_le_pow_right (by decide) l)⟩
theorem sz_nrm {t m : Int} {k : Nat} (h1 : t.natAbs < 2 ^ k) (h2 : m.natAbs < 2 ^ k) : Sz k (nrm t m) := ⟨Nat.lt_of_le_of_lt (nt_le t m) h1, Nat.lt_of_le_of_lt (nb_le t m) h2⟩
theorem lt_mul {x y : Int} {j k : Nat} (h1 : x.natAbs < 2 ^ j) (h2 : y.natAbs < 2 ^ k) : (x * y).natAbs < 2 ^ (j + k) := wide_lt h1 h2
theorem lt_add {x y : Int} {k : Nat} (h1 : x.natAbs < 2 ^ k) (h2 : y.natAbs < 2 ^ k) : (x + y).natAbs < 2 ^ (k + 1) := by
  have := Int.natAbs_add_le x y
  rw [Nat.pow_succ]
  omega
def addz (a b : Int × Int) : Int × Int := nrm (a.1 * b.2 + b.1 * a.2) (a.2 * b.2)
def mulz (a b : Int × Int) : Int × Int := nrm (a.1 * b.1) (a.2 * b.2)
def negz (a : Int × Int) : Int × Int := (-a.1, a.2)
def divz (a b : Int × Int) : Int × Int := nrm (a.1 * b.2) (a.2 * b.1)
theorem mne {a b : Int × Int} (ha : Red a) (hb : Red b) : a.2 * b.2 ≠ 0 := by
  have := ha.pos
  have := hb.pos
  exact Int.mul_ne_zero (by omega) (by omega)
theorem add_red {a b : Int × Int} (ha : Red a) (hb : Red b) : Red (addz a b) := nrm_red (mne ha hb)
theorem mul_red {a b : Int × Int} (ha : Red a) (hb : Red b) : Red (mulz a b) := nrm_red (mne ha hb)
theorem neg_red {a : Int × Int} (ha : Red a) : Red (negz a) := ⟨ha.pos, by show Int.gcd (-a.1) a.2 = 1; rw [Int.neg_gcd]; exact ha.co⟩
theorem add_sz {a b : Int × Int} {j k : Nat} (ha : Sz j a) (hb : Sz k b) : Sz (j + k + 1) (addz a b) := by
  refine sz_nrm (lt_add (lt_mul ha.1 hb.2) ?_) (Nat.lt_of_lt_of_le (lt_mul ha.2 hb.2) (Nat.pow_le_pow_right (by decide) (by omega)))
  rw [Int.mul_comm]
  exact lt_mul ha.2 hb.1
theorem mul_sz {a b : Int × Int} {j k : Nat} (ha : Sz j a) (hb : Sz k b) : Sz (j + k) (mulz a b) := sz_nrm (lt_mul ha.1 hb.1) (lt_mul ha.2 hb.2)
theorem neg_sz {a : Int × Int} {j : Nat} (ha : Sz j a) : Sz j (negz a) := ⟨by show (-a.1).natAbs < _; rw [Int.natAbs_neg]; exact ha.1, ha.2⟩
theorem add_cross {a b : Int × Int} (ha : Red a) (hb : Red b) : (addz a b).1 * (a.2 * b.2) = (a.1 * b.2 + b.1 * a.2) * (addz a b).2 := nrm_cross (mne ha hb)
theorem mul_cross {a b : Int × Int} (ha : Red a) (hb : Red b) : (mulz a b).1 * (a.2 * b.2) = (a.1 * b.1) * (mulz a b).2 := nrm_cross (mne ha hb)
theorem cancel {x y k : Int} (h : k ≠ 0) (e : x * k = y * k) : x = y := Int.eq_of_mul_eq_mul_right h e
theorem add_comm' (a b : Int × Int) : addz a b = addz b a := by
  unfold addz
  rw [Int.add_comm, Int.mul_comm a.2]
theorem mul_comm' (a b : Int × Int) : mulz a b = mulz b a := by
  unfold mulz
  rw [Int.mul_comm a.1, Int.mul_comm a.2]
theorem add_assoc' {a b c : Int × Int} (ha : Red a) (hb : Red b) (hc : Red c) : addz (addz a b) c = addz a (addz b c) := by
  have x := add_cross ha hb
  have y := add_cross hb hc
  have na := mne ha hb
  have nc := mne hb hc
  have rab := add_red ha hb
  have rbc := add_red hb hc
  refine nrm_eq (mne rab hc) (mne ha rbc) ?_
  refine cancel (k := (a.2 * b.2) * (b.2 * c.2)) (Int.mul_ne_zero na nc) ?_
  generalize addz a b = u at *
  generalize addz b c = v at *
  clear na nc rab rbc ha hb hc
  grind
theorem mul_assoc' {a b c : Int × Int} (ha : Red a) (hb : Red b) (hc : Red c) : mulz (mulz a b) c = mulz a (mulz b c) := by
  have x := mul_cross ha hb
  have y := mul_cross hb hc
  have na := mne ha hb
  have nc := mne hb hc
  have rab := mul_red ha hb
  have rbc := mul_red hb hc
  refine nrm_eq (mne rab hc) (mne ha rbc) ?_
  refine cancel (k := (a.2 * b.2) * (b.2 * c.2)) (Int.mul_ne_zero na nc) ?_
  generalize mulz a b = u at *
  generalize mulz b c = v at *
  clear na nc rab rbc ha hb hc
  grind
theorem mul_add' {a b c : Int × Int} (ha : Red a) (hb : Red b) (hc : Red c) : mulz (addz a b) c = addz (mulz a c) (mulz b c) := by
  have x := add_cross ha hb
  have y := mul_cross ha hc
  have z := mul_cross hb hc
  have n1 := mne ha hb
  have n2 := mne ha hc
  have n3 := mne hb hc
  refine nrm_eq (mne (add_red ha hb) hc) (mne (mul_red ha hc) (mul_red hb hc)) ?_
  refine cancel (k := (a.2 * b.2) * ((a.2 * c.2) * (b.2 * c.2))) (Int.mul_ne_zero n1 (Int.mul_ne_zero n2 n3)) ?_
  generalize addz a b = u at *
  generalize mulz a c = v at *
  generalize mulz b c = w at *
  clear n1 n2 n3 ha hb hc
  grind
theorem add_sub' {a b : Int × Int} (ha : Red a) (hb : Red b) : addz (addz a b) (negz b) = a := by
  have x := add_cross ha hb
  have n1 := mne ha hb
  refine nrm_is (mne (add_red ha hb) (neg_red hb)) ha ?_
  refine cancel (k := a.2 * b.2) n1 ?_
  show ((addz a b).1 * b.2 + (-b.1) * (addz a b).2) * a.2 * (a.2 * b.2) = a.1 * ((addz a b).2 * b.2) * (a.2 * b.2)
  generalize addz a b = u at *
  clear n1 ha hb
  grind
theorem mul_div' {a b : Int × Int} (ha : Red a) (hb : Red b) (h0 : b.1 ≠ 0) : divz (mulz a b) b = a := by
  have x := mul_cross ha hb
  have n1 := mne ha hb
  have r := mul_red ha hb
  have p := r.pos
  refine nrm_is (Int.mul_ne_zero (by omega) h0) ha ?_
  refine cancel (k := a.2 * b.2) n1 ?_
  generalize mulz a b = u at *
  clear n1 ha hb r p h0
  grind
/-- the sign of a difference -/
def sgn (x : Int) : Int := if x < 0 then -1 else if x > 0 then 1 else 0
theorem sgn_nrm {t m : Int} (h : 0 < m) : sgn (nrm t m).1 = sgn t := by
  have x := nrm_cross (t := t) (m := m) (by omega)
  have r := (nrm_red (t := t) (m := m) (by omega)).pos
  generalize (nrm t m).1 = a at *
  generalize (nrm t m).2 = b at *
  unfold sgn
  rcases Int.lt_trichotomy t 0 with h1 | h1 | h1
  · have z : a < 0 := by
      rcases Int.lt_or_le a 0 with q | q
      · exact q
      · have := Int.mul_nonneg q (Int.le_of_lt h)
        have := Int.mul_neg_of_neg_of_pos h1 r
        omega
    rw [if_pos z, if_pos h1]
  · subst h1
    rw [Int.zero_mul] at x
    have z : a = 0 := by
      rcases Int.mul_eq_zero.mp x with q | q
      · exact q
      · omega
    rw [z]
  · have z : 0 < a := by
      rcases Int.lt_or_le 0 a with q | q
      · exact q
      · have := Int.mul_pos h1 r
        have := Int.mul_nonpos_of_nonpos_of_nonneg q (Int.le_of_lt h)
        omega
    rw [if_neg (by omega), if_pos z, if_neg (by omega), if_pos h1]
def cmpz (a b : Int × Int) : Int := sgn (a.1 * b.2 - b.1 * a.2)
theorem cmp_sub {a b : Int × Int} (ha : Red a) (hb : Red b) : sgn (addz a (negz b)).1 = cmpz a b := by
  have p1 := ha.pos
  have p2 := hb.pos
  unfold cmpz
  have e : a.1 * b.2 - b.1 * a.2 = a.1 * (negz b).2 + (negz b).1 * a.2 := by show a.1 * b.2 - b.1 * a.2 = a.1 * b.2 + (-b.1) * a.2; grind
  rw [e]
  exact sgn_nrm (m := a.2 * (negz b).2) (Int.mul_pos p1 p2)
theorem sgn_neg (x : Int) : sgn x = 0 - sgn (-x) := by
  unfold sgn
  split <;> split <;> (try split) <;> (try split) <;> omega
theorem cmp_neg (a b : Int × Int) : cmpz a b = 0 - cmpz b a := by
  unfold cmpz
  rw [sgn_neg, show -(a.1 * b.2 - b.1 * a.2) = b.1 * a.2 - a.1 * b.2 by grind]
theorem cmp_same (a : Int × Int) : cmpz a a = 0 := by
  unfold cmpz
  rw [Int.sub_self]
  rfl
theorem cmp_up {a : Int × Int} {s : Int} (ha : Red a) (hs : Red (1, s)) : cmpz a (addz a (1, s)) = -1 := by
  have x := add_cross ha hs
  have r := (add_red ha hs).pos
  have p1 := ha.pos
  have p2 : 0 < s := hs.pos
  unfold cmpz
  have x' : (addz a (1, s)).1 * (a.2 * s) = (a.1 * s + 1 * a.2) * (addz a (1, s)).2 := x
  generalize addz a (1, s) = u at *
  have key : (a.1 * u.2 - u.1 * a.2) * s = - (a.2 * u.2) := by
    refine cancel (k := 1) (by decide) ?_
    clear x hs ha
    grind
  have neg : a.1 * u.2 - u.1 * a.2 < 0 := by
    rcases Int.lt_or_le (a.1 * u.2 - u.1 * a.2) 0 with q | q
    · exact q
    · have z1 := Int.mul_nonneg q (Int.le_of_lt p2)
      have z2 := Int.mul_pos p1 r
      omega
  unfold sgn
  rw [if_pos neg]

/-- a number: an int or a ratio -/
def Nv (K : PySem.W.Frag) (H : Hp) (v : V) (z : Int × Int) : Prop := ∃ d, Dp K H v d ∧ numOf d = some z
theorem Nv.same {K : PySem.W.Frag} {H H' : Hp} {v : V} {z : Int × Int} (h : Nv K H v z) (s : Same H H') : Nv K H' v z := by
  obtain ⟨d, hd, e⟩ := h
  exact ⟨d, dp_same s _ _ hd, e⟩
theorem Nv.int {K : PySem.W.Frag} {H : Hp} (i : Int) : Nv K H (.int i) (i, 1) := ⟨.int i, .int i, rfl⟩
theorem numOf_rat {z : Int × Int} (h : Red z) : numOf (rat z.1 z.2) = some z := by
  show (if 1 ≤ z.2 ∧ Int.gcd z.1 z.2 = 1 then some (z.1, z.2) else none) = some z
  have := h.pos
  rw [if_pos ⟨by omega, h.co⟩]
theorem Nv.rat {K : PySem.W.Frag} {H : Hp} {p : Addr} {z : Int × Int} (h : H p = some (.tup [.int z.1, .int z.2])) (r : Red z) : Nv K H (.ref p) z := ⟨_, dp_rat h, numOf_rat r⟩
theorem numOf_red {d : PyData} {z : Int × Int} (h : numOf d = some z) : Red z := by
  have key : ∀ d', ratOf d' = some z → Red z := fun d' h' => by
    have e := ratOf_is h'
    rw [e] at h'
    have h2 : (if 1 ≤ z.2 ∧ Int.gcd z.1 z.2 = 1 then some (z.1, z.2) else none) = some z := h'
    split at h2
    · rename_i w
      exact ⟨by omega, w.2⟩
    · cases h2
  cases d with
  | int i =>
    have e : (i, (1 : Int)) = z := Option.some.inj h
    rw [← e]
    exact ⟨by show (0 : Int) < 1; decide, by show Int.gcd i 1 = 1; exact Int.gcd_one_right i⟩
  | none => exact key .none h
  | bool b => exact key (.bool b) h
  | str b => exact key (.str b) h
  | list b => exact key (.list b) h
  | tuple b => exact key (.tuple b) h
  | dict b => exact key (.dict b) h
theorem Nv.red {K : PySem.W.Frag} {H : Hp} {v : V} {z : Int × Int} (h : Nv K H v z) : Red z := by
  obtain ⟨d, _, e⟩ := h
  exact numOf_red e
theorem dp_rat_inv {K : PySem.W.Frag} {H : Hp} {v : V} {t m : Int} (h : Dp K H v (rat t m)) : ∃ a, v = .ref a ∧ SqT K H a [.int t, .int m] := by
  cases h with
  | tup hs ha =>
    cases ha with
    | cons h1 h2 =>
      cases h2 with
      | cons h2 h3 =>
        cases h3
        cases h1
        cases h2
        exact ⟨_, rfl, hs⟩
def spBin (K : PySem.W.Frag) (f : Int × Int → Int × Int → Int × Int) : Sp := fun vs H Q _ => ∃ (x y : V) (a b : Int × Int) (j k : Nat), vs = [x, y] ∧ Nv K H x a ∧ Nv K H y b ∧ Sz j a ∧ Sz k b ∧ j + k + 1 ≤ 7000 ∧
  ∀ p H', Same H H' → H' p = some (.tup [.int (f a b).1, .int (f a b).2]) → Q (.ref p) H'
def spDiv (K : PySem.W.Frag) (C : Addr) : Sp := fun vs H Q E => ∃ (x y : V) (a b : Int × Int) (j k : Nat), vs = [x, y] ∧ Nv K H x a ∧ Nv K H y b ∧ Sz j a ∧ Sz k b ∧ j + k + 1 ≤ 7000 ∧
  (b.1 ≠ 0 → ∀ p H', Same H H' → H' p = some (.tup [.int (divz a b).1, .int (divz a b).2]) → Q (.ref p) H') ∧ (b.1 = 0 → ∀ H', Same H H' → E (.ref C) none H')
def spSub (K : PySem.W.Frag) : Sp := fun vs H Q _ => ∃ (x y : V) (a b : Int × Int) (j k : Nat), vs = [x, y] ∧ Nv K H x a ∧ Nv K H y b ∧ Sz j a ∧ Sz k b ∧ j + k + 2 ≤ 7000 ∧
  ∀ p H', Same H H' → H' p = some (.tup [.int (addz a (negz b)).1, .int (addz a (negz b)).2]) → Q (.ref p) H'
def spCmp (K : PySem.W.Frag) : Sp := fun vs H Q _ => ∃ (x y : V) (a b : Int × Int) (j k : Nat), vs = [x, y] ∧ Nv K H x a ∧ Nv K H y b ∧ Sz j a ∧ Sz k b ∧ j + k + 2 ≤ 7000 ∧ ∀ H', Same H H' → Q (.int (cmpz a b)) H'
theorem p2pos (k : Nat) (h : 0 < k) {x : Int} (hx : x.natAbs < 2 ^ k) : x.natAbs < 2 ^ k := hx
theorem Sz.pos {k : Nat} {z : Int × Int} (h : Sz k z) (r : Red z) : 0 < k := by
  have p := r.pos
  have q := h.2
  cases k with
  | zero => simp at q; omega
  | succ n => exact Nat.succ_pos _
theorem mulW_of {x y : Int} {j k : Nat} (hx : x.natAbs < 2 ^ j) (hy : y.natAbs < 2 ^ k) (j0 : 0 < j) (k0 : 0 < k) (l : j + k + 1 ≤ 7000) : CMulW x y := wide_mul hx hy j0 k0 (by omega)
theorem to8000 {x : Int} {k : Nat} (h : x.natAbs < 2 ^ k) (l : k ≤ 7999) : x.natAbs < 2 ^ 8000 := Nat.lt_of_lt_of_le h (Nat.pow_le_pow_right (by decide) (by omega))

/-! ### the law's drawn numbers -/
theorem But.new {H H' : Hp} {b g c p : Addr} {n : Nat} {o : HO} (B : Box H b g c n) (np : H p = none) (x : But b g (upd H p o) H') : H' p = some o := by
  obtain ⟨gs, cs, cur, m, B, _⟩ := B
  exact x p o upd_same (fun e => by rw [e, B.hb] at np; cases np) (fun e => by rw [e, B.hg] at np; cases np)
theorem But.after {H H' : Hp} {b g p : Addr} {o : HO} (np : H p = none) (x : But b g (upd H p o) H') : But b g H H' := (But.of (same_new np o)).trans x
theorem at_pick {H : Hp} {p : Addr} {xs : List V} {r k : Int} (_ : H p = some (.lst xs)) (r0 : 0 ≤ r) (r1 : r < k) (hk : (xs.length : Int) = k) : ∃ v, v ∈ xs ∧ atI xs r = some v := at_lt r0 (by omega)
theorem pow8000 (k : Nat) (h : k < 8000) : 2 ^ k < 2 ^ 8000 := Nat.pow_lt_pow_right (by decide) h
theorem pow8000' (j : Int) (k : Nat) (h : k < 8000) (h2 : j.natAbs < 2 ^ k) : j.natAbs < 2 ^ 8000 := Nat.lt_trans h2 (pow8000 k h)
/-- a drawn number: a new tuple in lowest terms -/
def spNum (cost : Nat) : Sp := fun vs H Q _ => ∃ (b g c : Addr) (n : Nat), vs = [.ref b] ∧ Box H b g c n ∧ n + cost < 1000000 ∧
  ∀ (p : Addr) (z : Int × Int) (H' : Hp), Red z → Sz 700 z → H' p = some (.tup [.int z.1, .int z.2]) → Box H' b g c (n + cost) → But b g H H' → Q (.ref p) H'
/-- a number as it is passed: the int where the bottom is 1, at times -/
def spGiven (K : PySem.W.Frag) : Sp := fun vs H Q _ => ∃ (b g c p : Addr) (n : Nat) (z : Int × Int), vs = [.ref b, .ref p] ∧ Box H b g c n ∧ n + 1 < 1000000 ∧ H p = some (.tup [.int z.1, .int z.2]) ∧ Red z ∧
  ∀ (v : V) (H' : Hp), Nv K (mk b g H') v z → Box H' b g c (n + 1) → But b g H H' → Q v H'
theorem red_one (t : Int) : Red (t, 1) := ⟨by show (0 : Int) < 1; decide, Int.gcd_one_right t⟩
theorem sz_of {z : Int × Int} {k : Nat} (h : Sz k z) (l : k ≤ 700) : Sz 700 z := h.mono l
section
variable {P : Program} {w : World} {K : PySem.W.Frag} {mg : Str → Option Value} {base : Heap}
theorem ok_number (GT : Kn P w K mg base CX0 "_law_take" 2 ["_law_box_here", "_law_size"] spTake) (GR : Kn P w K mg base CX0 "_law_ratio" 2 ["_law_top", "_law_bottom"] spLRatio) (D : Df K mg "_law_number" s_l_number ["_law_box_here"]) :
    Kn P w K mg base CX0 "_law_number" 3 ["_law_box_here"] (spNum 6) := by
  obtain ⟨f, fd, F, hm, hb⟩ := D
  obtain ⟨f_l_take, fd_l_take, G_l_take, m_l_take, k_l_take, b_l_take⟩ := GT
  obtain ⟨f_l_ratio, fd_l_ratio, G_l_ratio, m_l_ratio, k_l_ratio, b_l_ratio⟩ := GR
  refine ⟨f, fd, F.ok sc_l_number (fun vs H Q E h => ?_) (fun cdv A outer s H vs Q E hr h => ?_), hm, F.kp, hb⟩
  · obtain ⟨b, g, c, n, rfl, _⟩ := h
    rfl
  · obtain ⟨b, g, c, n, rfl, B, hn, q⟩ := h
    refine ⟨_, (pss_cons (ps_set (i := 1) sc_l_number.nd rfl (Or.inl rfl) (pe_call G_l_take (hr.mono (by omega)) rfl m_l_take k_l_take b_l_take .nil pass0 (pa_cons (pv 0) (pa_cons pe_int pa_nil))))
      (pss_cons (ps_if (pt_cmpR op_lt (pv 1) pe_int (nomark _)) (pss_one (ps_ret (pe_tup (pa_cons (pe_op op_sub (pe_call G_l_take (hr.mono (by omega)) rfl m_l_take k_l_take b_l_take .nil pass0 (pa_cons (pv 0) (pa_cons pe_int pa_nil))) pe_int) (pa_cons pe_int pa_nil))))) pss_nil)
      (pss_cons (ps_if (pt_cmpR op_lt (pv 1) pe_int (nomark _)) (pss_one (ps_ret (pe_call G_l_ratio (hr.mono (by omega)) rfl m_l_ratio k_l_ratio b_l_ratio .nil pass0 (pa_cons (pe_op op_sub (pe_call G_l_take (hr.mono (by omega)) rfl m_l_take k_l_take b_l_take .nil pass0 (pa_cons (pv 0) (pa_cons pe_int pa_nil))) pe_int) (pa_cons (pe_op op_add pe_int (pe_call G_l_take (hr.mono (by omega)) rfl m_l_take k_l_take b_l_take .nil pass0 (pa_cons (pv 0) (pa_cons pe_int pa_nil)))) pa_nil))))) pss_nil)
      (pss_cons (ps_set (i := 2) sc_l_number.nd rfl (Or.inl rfl) (pe_op op_mul (pe_call G_l_take (hr.mono (by omega)) rfl m_l_take k_l_take b_l_take .nil pass0 (pa_cons (pv 0) (pa_cons (pe_op op_powB pe_int pe_int) pa_nil))) (pe_ix ix_list (pe_lst (pa_cons pe_int (pa_cons (pe_un un_neg pe_int) pa_nil))) (pe_call G_l_take (hr.mono (by omega)) rfl m_l_take k_l_take b_l_take .nil pass0 (pa_cons (pv 0) (pa_cons pe_int pa_nil))) (fun _ _ => rfl))))
      (pss_one (ps_ret (pe_call G_l_ratio (hr.mono (by omega)) rfl m_l_ratio k_l_ratio b_l_ratio .nil pass0 (pa_cons (pv 2) (pa_cons (pe_ix ix_list (pe_lst (pa_cons pe_int (pa_cons (pe_op op_add pe_int (pe_call G_l_take (hr.mono (by omega)) rfl m_l_take k_l_take b_l_take .nil pass0 (pa_cons (pv 0) (pa_cons (pe_op op_sub (pe_op op_powB pe_int pe_int) pe_int) pa_nil)))) pa_nil))) (pe_call G_l_take (hr.mono (by omega)) rfl m_l_take k_l_take b_l_take .nil pass0 (pa_cons (pv 0) (pa_cons pe_int pa_nil))) (fun _ _ => rfl)) pa_nil))))))))), ?_⟩
    refine ⟨_, rfl, b, g, c, n, 10, rfl, B, by omega, by decide, pow8000' 10 4 (by decide) (by decide), fun way H1 w0 w1 B1 b1 => ?_⟩
    refine ⟨_, rfl, _, _, rfl, rfl, _, rfl, ?_⟩
    refine ite2 (fun _ => ?_) (fun _ => ?_)
    · refine ⟨_, rfl, b, g, c, _, 21, rfl, B1, by omega, by decide, pow8000' 21 5 (by decide) (by decide), fun x H2 x0 x1 B2 b2 => ?_⟩
      refine ⟨_, _, rfl, rfl, (by show 2 ≤ sizeLine; decide), fun p np => ?_⟩
      exact q p (x - 10, 1) _ (red_one _) (sz_of (k := 5) ⟨by show (x - 10).natAbs < 32; omega, by show (1 : Int).natAbs < 32; decide⟩ (by decide)) upd_same ((B2.same (same_new np _)).mono (by omega)) ((b1.trans b2).trans (But.of (same_new np _)))
    refine ⟨_, rfl, _, _, rfl, rfl, _, rfl, ?_⟩
    refine ite2 (fun _ => ?_) (fun _ => ?_)
    · refine ⟨_, rfl, b, g, c, _, 61, rfl, B1, by omega, by decide, pow8000' 61 6 (by decide) (by decide), fun x H2 x0 x1 B2 b2 => ?_⟩
      refine ⟨_, _, rfl, rfl, _, rfl, b, g, c, _, 12, rfl, B2, by omega, by decide, pow8000' 12 4 (by decide) (by decide), fun y H3 y0 y1 B3 b3 => ?_⟩
      refine ⟨_, _, rfl, rfl, x - 30, 1 + y, rfl, by omega, pow8000' (1 + y) 4 (by decide) (by show (1 + y).natAbs < 16; omega), fun p H4 s4 h4 => ?_⟩
      exact q p (nrm (x - 30) (1 + y)) _ (nrm_red (by omega)) (sz_of (k := 6) (sz_nrm (by show (x - 30).natAbs < 64; omega) (by show (1 + y).natAbs < 64; omega)) (by decide)) h4 ((B3.same s4).mono (by omega)) (((b1.trans b2).trans b3).trans (But.of s4))
    refine ⟨_, rfl, _, _, rfl, rfl, ⟨by decide, by decide +kernel⟩, b, g, c, _, _, rfl, B1, by omega, (by show (0 : Int) < 10 ^ 12; decide), pow8000' (10 ^ 12) 40 (by decide) (by decide), fun x H2 x0 x1 B2 b2 => ?_⟩
    have x2 : x < 10 ^ 12 := x1
    refine ⟨_, rfl, ?_⟩
    refine ⟨(by show 2 ≤ sizeLine; decide), fun p3 np3 => ⟨_, rfl, b, g, c, _, 2, rfl, B2.same (same_new np3 _), (by omega), (by decide), (by decide), fun r3 H3 r03 r13 B3 bt3 => ?_⟩⟩
    have hp3 := But.new B2 np3 bt3
    have bu3 := But.after np3 bt3
    obtain ⟨v3, hv3, hat3⟩ := at_pick hp3 r03 r13 rfl
    refine ⟨p3, _, r3, v3, rfl, rfl, SqL.of hp3, hat3, ?_⟩
    have hw : ∃ y : Int, v3 = .int y ∧ (y = 1 ∨ y = -1) := by
      simp only [List.mem_cons, List.not_mem_nil, or_false] at hv3
      rcases hv3 with e | e
      · exact ⟨_, e, .inl rfl⟩
      · exact ⟨_, e, .inr rfl⟩
    obtain ⟨y, rfl, hy⟩ := hw
    refine ⟨_, _, rfl, rfl, .inr ⟨by omega, by omega⟩, ?_⟩
    have hxy : (x * y).natAbs < 2 ^ 40 := by
      rcases hy with rfl | rfl
      · rw [Int.mul_one]
        omega
      · rw [Int.mul_neg, Int.mul_one]
        omega
    refine ⟨_, rfl, _, rfl, _, _, rfl, rfl, ⟨by decide, by decide +kernel⟩, _, _, rfl, rfl, b, g, c, _, _, rfl, B3, by omega, (by show (0 : Int) < 10 ^ 12 - 1; decide), pow8000' (10 ^ 12 - 1) 40 (by decide) (by decide), fun u H4 u0 u1 B4 b4 => ?_⟩
    have u2 : u < 10 ^ 12 - 1 := u1
    refine ⟨_, _, rfl, rfl, ?_⟩
    refine ⟨(by show 2 ≤ sizeLine; decide), fun p5 np5 => ⟨_, rfl, b, g, c, _, 2, rfl, B4.same (same_new np5 _), (by omega), (by decide), (by decide), fun r5 H5 r05 r15 B5 bt5 => ?_⟩⟩
    have hp5 := But.new B4 np5 bt5
    have bu5 := But.after np5 bt5
    obtain ⟨v5, hv5, hat5⟩ := at_pick hp5 r05 r15 rfl
    refine ⟨p5, _, r5, v5, rfl, rfl, SqL.of hp5, hat5, ?_⟩
    have hm : ∃ y : Int, v5 = .int y ∧ 0 < y ∧ y.natAbs < 2 ^ 40 := by
      simp only [List.mem_cons, List.not_mem_nil, or_false] at hv5
      rcases hv5 with e | e
      · exact ⟨_, e, by decide, by decide⟩
      · exact ⟨_, e, by show (0 : Int) < 1 + u; omega, by show (1 + u).natAbs < 2 ^ 40; omega⟩
    obtain ⟨m, rfl, m0, mB⟩ := hm
    refine ⟨x * y, m, rfl, by omega, pow8000' m 40 (by decide) mB, fun p H6 s6 h6 => ?_⟩
    exact q p (nrm (x * y) m) _ (nrm_red (by omega)) (sz_of (k := 40) (sz_nrm hxy mB) (by decide)) h6 ((B5.same s6).mono (by omega)) (((((b1.trans b2).trans bu3).trans b4).trans bu5).trans (But.of s6))
theorem ok_given (GT : Kn P w K mg base CX0 "_law_take" 2 ["_law_box_here", "_law_size"] spTake) (D : Df K mg "_law_given" s_l_given ["_law_box_here", "_law_number_here"]) :
    Kn P w K mg base CX0 "_law_given" 3 ["_law_box_here", "_law_number_here"] (spGiven K) := by
  obtain ⟨f, fd, F, hm, hb⟩ := D
  obtain ⟨f_l_take, fd_l_take, G_l_take, m_l_take, k_l_take, b_l_take⟩ := GT
  refine ⟨f, fd, F.ok sc_l_given (fun vs H Q E h => ?_) (fun cdv A outer s H vs Q E hr h => ?_), hm, F.kp, hb⟩
  · obtain ⟨b, g, c, p, n, z, rfl, _⟩ := h
    rfl
  · obtain ⟨b, g, c, p, n, z, rfl, B, hn, hp, rz, q⟩ := h
    refine ⟨_, (pss_cons (ps_if (PW.pt (pw_and (pt_cmpR op_eq (pe_ix ix_tup (pv 1) pe_int (fun _ _ => rfl)) pe_int (nomark _)) (pw_and1 (pt_cmpR op_eq (pe_call G_l_take (hr.mono (by omega)) rfl m_l_take k_l_take b_l_take .nil pass0 (pa_cons (pv 0) (pa_cons pe_int pa_nil))) pe_int (nomark _))))) (pss_one (ps_ret (pe_ix ix_tup (pv 1) pe_int (fun _ _ => rfl)))) pss_nil)
      (pss_one (ps_ret (pv 1)))), ?_⟩
    refine ⟨_, rfl, p, _, _, .int z.2, rfl, rfl, SqT.of hp, rfl, rfl, _, rfl, ?_⟩
    refine ite2 (fun h1 => ?_) (fun _ => ?_)
    · have e : z.2 = 1 := by
        have y := of_decide_eq_true h1
        injection y
      refine ⟨_, rfl, b, g, c, n, 2, rfl, B, by omega, by decide, pow8000' 2 2 (by decide) (by decide), fun x H1 x0 x1 B1 b1 => ?_⟩
      have hp1 := b1.tup B hp
      refine ⟨rfl, _, rfl, ?_⟩
      refine ite2 (fun _ => ?_) (fun _ => ?_)
      · refine ⟨_, rfl, p, _, _, .int z.1, rfl, rfl, SqT.of hp1, rfl, ?_⟩
        refine q _ _ ?_ B1 b1
        have : (z.1, (1 : Int)) = z := Prod.ext rfl e.symm
        rw [← this]
        exact Nv.int _
      · refine ⟨_, rfl, ?_⟩
        exact q _ _ (Nv.rat (mk_tup B1 hp1) rz) B1 b1
    · refine ⟨_, rfl, ?_⟩
      exact q _ _ (Nv.rat (mk_tup B hp) rz) (B.mono (by omega)) (But.refl _ _ _)
end

/-- a text as a list of signs -/
abbrev tx (l : List Nat) : V := .str (SX.S l)
theorem asciiS (l : List Nat) : Txt.isascii (SX.S l) = l.all (· < 128) := by
  unfold Txt.isascii
  simp [SX.S]
theorem alphaS (l : List Nat) : Txt.isalpha (SX.S l) = (decide (0 < l.length) && l.all Unicode.isAlpha) := by
  unfold Txt.isalpha
  simp [SX.S, Str.length]
theorem lowerS (l : List Nat) : Txt.islower (SX.S l) = (l.any Unicode.isLower && !l.any fun c => Unicode.isUpper c || Unicode.isTitle c) := by
  unfold Txt.islower
  simp [SX.S]

/-- what the module holds besides -/
structure Ut4 (K : PySem.W.Frag) (mg : Str → Option Value) : Prop where
  n_str : mg "str" = none
  n_set : mg "set" = none
  n_sorted : mg "sorted" = none
  g_words : ∃ a, mg "FUNCTION_WORDS" = some (.ref a) ∧ ∀ H, SqT K H a [V.str "sum", V.str "average"]
  g_zero : ∃ a, mg "ZERO" = some (.ref a) ∧ ∀ H, SqT K H a [V.int 0, V.int 1]
  g_one : ∃ a, mg "ONE" = some (.ref a) ∧ ∀ H, SqT K H a [V.int 1, V.int 1]
  g_letters : ∃ t, mg "NAME_LETTERS" = some (.int 8 t)
mutual
/-- short texts, few parts -/
def shortD : PyData → Bool
  | .str x => decide (x.length ≤ 100)
  | .list ds => decide (ds.length ≤ 60) && shortDs ds
  | .tuple ds => decide (ds.length ≤ 60) && shortDs ds
  | _ => true
def shortDs : List PyData → Bool
  | [] => true
  | d :: ds => shortD d && shortDs ds
end
def spDS (K : PySem.W.Frag) (f : PyData → Bool) : Sp := fun vs H Q _ => ∃ (v : V) (d : PyData), vs = [v] ∧ Dp K H v d ∧ shortD d = true ∧ ∀ H', Same H H' → Q (.bl (f d)) H'
def nameD : PyData → Bool | .str x => nameL x.cps.toList | _ => false
theorem nameD_S (l : List Nat) : nameD (.str (SX.S l)) = nameL l := by
  show nameL (SX.S l).cps.toList = _
  simp [SX.S]
theorem eqv_rats (a b c d : Int) : PyData.eqv (rat a b) (rat c d) = decide (a = c ∧ b = d) := by
  unfold rat
  simp [PyData.eqv, PyData.eqvAll]
  rfl
theorem ratOf_red {d : PyData} {z : Int × Int} (h : ratOf d = some z) : Red z := by
  have e := ratOf_is h
  subst e
  have h2 : (if 1 ≤ z.2 ∧ Int.gcd z.1 z.2 = 1 then some (z.1, z.2) else none) = some z := h
  split at h2
  · rename_i w
    exact ⟨by omega, w.2⟩
  · cases h2
theorem zero_rat {z : Int × Int} (h : Red z) : decide (z.1 ≠ 0) = !decide (z.1 = 0 ∧ z.2 = 1) := by
  by_cases c : z.1 = 0
  · have g := h.co
    rw [c, Int.gcd_zero_left] at g
    have p := h.pos
    rw [decide_eq_false (fun y => y c), decide_eq_true (⟨c, by omega⟩ : z.1 = 0 ∧ z.2 = 1)]
    rfl
  · rw [decide_eq_true c, decide_eq_false (fun y => c y.1)]
    rfl
/-- a pair of a name and a ratio other than 0 -/
def termP : List PyData → Bool
  | [n, r] => nameD n && (match ratOf r with | some z => decide (z.1 ≠ 0) | none => false)
  | _ => false
def termD : PyData → Bool | .tuple ds => termP ds | _ => false
theorem words_in (l : List Nat) : inV (tx l) [V.str (Str.ofString "sum"), V.str (Str.ofString "average")] = decide (l = [115, 117, 109] ∨ l = [97, 118, 101, 114, 97, 103, 101]) := by
  show ((Str.ofString "sum" == SX.S l) || ((Str.ofString "average" == SX.S l) || false)) = _
  rw [show Str.ofString "sum" = SX.S [115, 117, 109] by decide +kernel, show Str.ofString "average" = SX.S [97, 118, 101, 114, 97, 103, 101] by decide +kernel, SX.S_beq_eq, SX.S_beq_eq, Bool.or_false]
  rw [Bool.eq_iff_iff, Bool.or_eq_true, decide_eq_true_eq, decide_eq_true_eq, decide_eq_true_eq]
  exact ⟨fun h => h.imp Eq.symm Eq.symm, fun h => h.imp Eq.symm Eq.symm⟩
section
variable {P : Program} {w : World} {K : PySem.W.Frag} {mg : Str → Option Value} {base : Heap}
theorem ok_is_name (T : Bt mg) (Tt : Ut4 K mg) (D : Df K mg "is_name" s_is_name ["value"]) : Kn P w K mg base CX0 "is_name" 1 ["value"] (spDS K nameD) := by
  obtain ⟨t8, hnl⟩ := Tt.g_letters
  obtain ⟨aw, hfw, sfw⟩ := Tt.g_words
  obtain ⟨f, fd, F, hm, hb⟩ := D
  refine ⟨f, fd, F.ok sc_is_name (fun vs H Q E h => ?_) (fun cdv A outer s H vs Q E hr h => ?_), hm, F.kp, hb⟩
  · obtain ⟨v, d, rfl, _⟩ := h
    rfl
  · obtain ⟨v, d, rfl, hd, hsh, q⟩ := h
    have q0 := q H (Same.refl H)
    refine ⟨_, (pss_cons (ps_if (PW.pt (pw_or (pt_not (pt_val (pe_callB (cr_isi (K := K) rfl) (by rfl) T.n_isinstance (by decide +kernel) (pa_cons (pv 0) (pa_cons (pe_bltn (v := .ty "str") (by rfl) Tt.n_str (by decide +kernel) rfl) pa_nil))))) (pw_or (pt_cmpR op_gt (pe_callB call_len_str (by rfl) T.n_len (by decide +kernel) (pa_cons (pv 0) pa_nil)) (pe_glob (v := .int 8) rfl hnl ⟨_, rfl⟩) (nomark _)) (pw_or1 (pt_cmpR op_in_seq (pv 0) (pe_glob (v := .ref aw) rfl hfw rfl) (by rfl)))))) (pss_one (ps_ret pe_bl)) pss_nil)
      (pss_one (ps_ret (pe_and (pe_bm0 PySem.F.plainAttrs_str PySem.F.slot_str_isascii PySem.F.type_str_isascii mt_isascii (pv 0)) (pe_and (pe_bm0 PySem.F.plainAttrs_str PySem.F.slot_str_isalpha PySem.F.type_str_isalpha mt_isalpha (pv 0)) (pe_one (pe_bm0 PySem.F.plainAttrs_str PySem.F.slot_str_islower PySem.F.type_str_islower mt_islower (pv 0)))))))), ?_⟩
    refine ⟨_, rfl, _, _, _, _, _, rfl, .ty _, dp_ty hd, kit_ty (kb_str d), _, rfl, ?_⟩
    refine ite2 (fun c => ?_) (fun c => ?_)
    · have e : nameD d = false := by cases d <;> first | rfl | cases c
      rw [e] at q0
      exact q0
    · obtain ⟨x, rfl⟩ : ∃ x, d = .str x := by cases d <;> first | exact ⟨_, rfl⟩ | exact absurd rfl c
      obtain ⟨l, rfl⟩ : ∃ l, x = SX.S l := ⟨x.cps.toList, (SX.S_tl x).symm⟩
      cases hd
      rw [nameD_S] at q0
      have hlen : l.length ≤ 100 := by
        have z := of_decide_eq_true (show decide ((SX.S l).length ≤ 100) = true from hsh)
        rw [SX.S_len] at z
        exact z
      have hsl : (SX.S l).length ≤ sizeLine := by rw [SX.S_len]; exact Nat.le_trans hlen (by decide)
      refine ⟨_, rfl, _, rfl, hsl, _, _, rfl, rfl, _, rfl, ?_⟩
      refine ite2 (fun c1 => ?_) (fun c1 => ?_)
      · have e : nameL l = false := by
          have z := of_decide_eq_true c1
          rw [SX.S_len] at z
          unfold nameL
          rw [show decide (l.length < 9) = false from decide_eq_false (by omega)]
          simp
        rw [e] at q0
        exact q0
      · refine ⟨_, rfl, aw, _, rfl, .inr (sfw _), rfl, rfl, _, rfl, ?_⟩
        have hw := words_in l
        have hl9 : decide (l.length < 9) = true := by
          have z := of_decide_eq_false (Bool.eq_false_iff.mpr c1)
          rw [SX.S_len] at z
          exact decide_eq_true (by omega)
        refine ite2 (fun c2 => ?_) (fun c2 => ?_)
        · have z := of_decide_eq_true (hw.symm.trans c2)
          have e : nameL l = false := by
            unfold nameL
            rcases z with z | z
            · rw [z]; rfl
            · rw [z]; rfl
          rw [e] at q0
          exact q0
        · have z := of_decide_eq_false (hw.symm.trans (Bool.eq_false_iff.mpr c2))
          have e : nameL l = (decide (l ≠ []) && l.all az) := by
            unfold nameL
            rw [hl9, decide_eq_true (p := l ≠ [115, 117, 109]) (fun y => z (.inl y)), decide_eq_true (p := l ≠ [97, 118, 101, 114, 97, 103, 101]) (fun y => z (.inr y))]
            rw [Bool.and_true, Bool.and_true, Bool.and_true]
          rw [e, ← small_signs] at q0
          refine ⟨_, rfl, rfl, _, rfl, rfl, trivial, _, rfl, ?_⟩
          rw [asciiS]
          refine ite2 (fun k1 => ?_) (fun k1 => ?_)
          · rw [if_pos k1] at q0
            refine ⟨_, rfl, rfl, _, rfl, rfl, trivial, _, rfl, ?_⟩
            rw [alphaS]
            refine ite2 (fun k2 => ?_) (fun k2 => ?_)
            · rw [if_pos k2] at q0
              refine ⟨_, rfl, rfl, _, rfl, rfl, trivial, ?_⟩
              rw [lowerS]
              exact q0
            · rw [if_neg k2] at q0
              exact q0
          · rw [if_neg k1] at q0
            exact q0
theorem ok_is_term (T : Bt mg) (Tt : Ut4 K mg) (GN : Kn P w K mg base CX0 "is_name" 1 ["value"] (spDS K nameD)) (GR : Kn P w K mg base CX0 "is_ratio" 2 ["value"] (spD K isRat)) (D : Df K mg "is_term" s_is_term ["value"]) :
    Kn P w K mg base CX0 "is_term" 3 ["value"] (spDS K termD) := by
  obtain ⟨az, hz, saz⟩ := Tt.g_zero
  obtain ⟨f, fd, F, hm, hb⟩ := D
  obtain ⟨f_is_name, fd_is_name, G_is_name, m_is_name, k_is_name, b_is_name⟩ := GN
  obtain ⟨f_is_ratio, fd_is_ratio, G_is_ratio, m_is_ratio, k_is_ratio, b_is_ratio⟩ := GR
  refine ⟨f, fd, F.ok sc_is_term (fun vs H Q E h => ?_) (fun cdv A outer s H vs Q E hr h => ?_), hm, F.kp, hb⟩
  · obtain ⟨v, d, rfl, _⟩ := h
    rfl
  · obtain ⟨v, d, rfl, hd, hsh, q⟩ := h
    refine ⟨_, (pss_cons (ps_if (PW.pt (pw_or (pt_not (pt_val (pe_callB (cr_isi (K := K) rfl) (by rfl) T.n_isinstance (by decide +kernel) (pa_cons (pv 0) (pa_cons (pe_bltn (v := .ty "tuple") (by rfl) T.n_tuple (by decide +kernel) rfl) pa_nil))))) (pw_or1 (pt_cmpR op_ne (pe_callB call_len_seq (by rfl) T.n_len (by decide +kernel) (pa_cons (pv 0) pa_nil)) pe_int (nomark _))))) (pss_one (ps_ret pe_bl)) pss_nil)
      (pss_cons (ps_asg (pv 0) (pg_tup (by rfl) (pgs_cons (pg_name (i := 1) sc_is_term.nd rfl (Or.inl rfl)) (pgs_cons (pg_name (i := 2) sc_is_term.nd rfl (Or.inl rfl)) pgs_nil))))
      (pss_one (ps_ret (pe_and (pe_call G_is_name (hr.mono (by omega)) rfl m_is_name k_is_name b_is_name .nil pass0 (pa_cons (pv 1) pa_nil)) (pe_and (pe_call G_is_ratio (hr.mono (by omega)) rfl m_is_ratio k_is_ratio b_is_ratio .nil pass0 (pa_cons (pv 2) pa_nil)) (pe_one (pe_cmpR (op_neD hr.units) (pv 2) (pe_glob (v := .ref az) rfl hz rfl) (nomark _))))))))), ?_⟩
    refine ⟨_, rfl, _, _, _, _, _, rfl, .ty _, dp_ty hd, kit_ty (kb_tup d), _, rfl, ?_⟩
    refine ite2 (fun c => ?_) (fun c => ?_)
    · have e : termD d = false := by cases d <;> first | rfl | cases c
      have q0 := q H (Same.refl H)
      rw [e] at q0
      exact q0
    · obtain ⟨ds, rfl⟩ : ∃ ds, d = .tuple ds := by cases d <;> first | exact ⟨_, rfl⟩ | exact absurd rfl c
      cases hd with
      | @tup a xs _ hs ha =>
        have hl := dps_len ha
        refine ⟨_, rfl, a, _, rfl, .inr hs, rfl, _, rfl, ?_⟩
        refine ite2 (fun c2 => ?_) (fun c2 => ?_)
        · have e : termD (.tuple ds) = false := by
            match ds, xs, hl, c2 with
            | [], _, _, _ => rfl
            | [_], _, _, _ => rfl
            | [_, _], xs, hl, c2 =>
              have hl2 : xs.length = 2 := hl
              rw [hl2] at c2
              exact absurd c2 (by decide)
            | _ :: _ :: _ :: _, _, _, _ => rfl
          have q0 := q H (Same.refl H)
          rw [e] at q0
          exact q0
        · have h2 : xs.length = 2 := by
            by_cases z : (xs.length : Int) = 2
            · omega
            · exact absurd (by simp [z]) c2
          obtain ⟨d1, d2, rfl⟩ : ∃ d1 d2, ds = [d1, d2] := by
            rw [h2] at hl
            match ds, hl with
            | [d1, d2], _ => exact ⟨d1, d2, rfl⟩
          cases ha with
          | @cons x1 _ _ _ h1 ha =>
            cases ha with
            | @cons x2 _ _ _ hx2 ha =>
              cases ha
              have hs1 : shortD d1 = true ∧ shortD d2 = true := by
                have z : (true && (shortD d1 && (shortD d2 && true))) = true := hsh
                rw [Bool.true_and, Bool.and_true, Bool.and_eq_true] at z
                exact z
              refine ⟨_, rfl, a, _, rfl, hs, rfl, x1, _, rfl, x2, _, rfl, rfl, ?_⟩
              refine ⟨_, rfl, x1, d1, rfl, h1, hs1.1, fun H1 s1 => ⟨_, rfl, ?_⟩⟩
              refine ite2 (fun c3 => ?_) (fun c3 => ?_)
              · refine ⟨_, rfl, x2, d2, rfl, dp_same s1 _ _ hx2, fun H2 s2 => ⟨_, rfl, ?_⟩⟩
                refine ite2 (fun c4 => ?_) (fun c4 => ?_)
                · obtain ⟨z, hz4⟩ : ∃ z, ratOf d2 = some z := Option.isSome_iff_exists.mp c4
                  have ed := ratOf_is hz4
                  subst ed
                  refine ⟨_, rfl, _, _, dp_same (s1.trans s2) _ _ hx2, .tup (saz _) (.cons (.int 0) (.cons (.int 1) .nil)), rfl, rfl, ?_⟩
                  have q0 := q H2 (s1.trans s2)
                  have e : termD (.tuple [d1, rat z.1 z.2]) = !PyData.eqv (rat z.1 z.2) (rat 0 1) := by
                    show (nameD d1 && (match ratOf (rat z.1 z.2) with | some z => decide (z.1 ≠ 0) | none => false)) = _
                    rw [c3, hz4, eqv_rats, Bool.true_and]
                    exact zero_rat (ratOf_red hz4)
                  rw [e] at q0
                  exact q0
                · have e : termD (.tuple [d1, d2]) = false := by
                    have z : ratOf d2 = none := by
                      cases h : ratOf d2 with
                      | none => rfl
                      | some z => exact absurd (show isRat d2 = true by unfold isRat; rw [h]; rfl) c4
                    show (nameD d1 && (match ratOf d2 with | some z => decide (z.1 ≠ 0) | none => false)) = false
                    rw [z, Bool.and_false]
                  have q0 := q H2 (s1.trans s2)
                  rw [e] at q0
                  exact q0
              · have e : termD (.tuple [d1, d2]) = false := by
                  show (nameD d1 && _) = false
                  rw [Bool.eq_false_iff.mpr c3, Bool.false_and]
                have q0 := q H1 s1
                rw [e] at q0
                exact q0
end

def fstName : PyData → Str
  | .tuple (.str x :: _) => x
  | _ => Str.empty
def formP : List PyData → Bool
  | [t, c] => (match t with | .tuple ts => isRat c && (ts.all termD && inOrder (ts.map fstName)) | _ => false)
  | _ => false
def formD : PyData → Bool | .tuple ds => formP ds | _ => false
theorem term_shape {d : PyData} (h : termD d = true) : ∃ x r, d = .tuple [.str x, r] ∧ nameL x.cps.toList = true ∧ ∃ z, ratOf r = some z ∧ z.1 ≠ 0 := by
  cases d with
  | tuple ds =>
    match ds, h with
    | [n, r], h =>
      have h2 : (nameD n && (match ratOf r with | some z => decide (z.1 ≠ 0) | none => false)) = true := h
      rw [Bool.and_eq_true] at h2
      obtain ⟨x, rfl⟩ : ∃ x, n = .str x := by
        cases n with
        | str x => exact ⟨x, rfl⟩
        | none => cases h2.1
        | bool _ => cases h2.1
        | int _ => cases h2.1
        | list _ => cases h2.1
        | tuple _ => cases h2.1
        | dict _ => cases h2.1
      refine ⟨x, r, rfl, h2.1, ?_⟩
      have h3 := h2.2
      cases hr : ratOf r with
      | none => rw [hr] at h3; cases h3
      | some z =>
        rw [hr] at h3
        exact ⟨z, rfl, of_decide_eq_true h3⟩
  | none => cases h
  | bool _ => cases h
  | int _ => cases h
  | str _ => cases h
  | list _ => cases h
  | dict _ => cases h
theorem name_ok {x : Str} (h : nameL x.cps.toList = true) : PyData.strOk x = true := by
  unfold nameL at h
  rw [Bool.and_eq_true, Bool.and_eq_true, Bool.and_eq_true] at h
  unfold PyData.strOk
  rw [← Array.all_toList, List.all_eq_true]
  intro c hc
  rw [decide_eq_true_eq]
  exact Nat.lt_trans (az_ascii (List.all_eq_true.mp h.1.1.2 c hc)) (by decide)
abbrev strD (xs : List Str) : PyData := .list (xs.map PyData.str)
theorem eqv_strs : ∀ xs ys : List Str, PyData.eqv (strD xs) (strD ys) = decide (xs = ys) := by
  have key : ∀ xs ys : List Str, PyData.eqvAll (xs.map PyData.str) (ys.map PyData.str) = decide (xs = ys) := by
    intro xs
    induction xs with
    | nil => intro ys; cases ys <;> rfl
    | cons x xs ih =>
      intro ys
      cases ys with
      | nil => rfl
      | cons y ys =>
        show ((x == y) && PyData.eqvAll (xs.map PyData.str) (ys.map PyData.str)) = _
        rw [ih ys, Bool.eq_iff_iff, Bool.and_eq_true, decide_eq_true_eq, decide_eq_true_eq, beq_iff_eq]
        exact ⟨fun h => by rw [h.1, h.2], fun h => ⟨(List.cons.inj h).1, (List.cons.inj h).2⟩⟩
  exact key
theorem lay_strs : ∀ xs : List Str, (∀ x ∈ xs, PyData.strOk x = true) → PyData.canLayAll0 (xs.map PyData.str) = true
  | [], _ => rfl
  | x :: xs, h => by
    show (PyData.strOk x && PyData.canLayAll0 (xs.map PyData.str)) = true
    rw [h x (List.mem_cons_self ..), lay_strs xs fun y hy => h y (List.mem_cons_of_mem _ hy)]
    rfl
theorem deep_strs : ∀ xs : List Str, PyData.depthAll (xs.map PyData.str) = 0
  | [] => rfl
  | x :: xs => by
    show max 0 (PyData.depthAll (xs.map PyData.str)) = 0
    rw [deep_strs xs]
    rfl
theorem shp_strs {xs : List Str} (h : ∀ x ∈ xs, PyData.strOk x = true) : SeqAt.shaped (strD xs) = true := by
  unfold SeqAt.shaped
  rw [show (strD xs).canLay0 = true from lay_strs xs h, show (strD xs).depth = 1 by show PyData.depthAll (xs.map PyData.str) + 1 = 1; rw [deep_strs]]
  rfl
theorem dps_strs {K : PySem.W.Frag} {H : Hp} : ∀ xs : List Str, DpAll K H (xs.map V.str) (xs.map PyData.str)
  | [] => .nil
  | x :: xs => .cons (.str x) (dps_strs xs)
theorem short_tup {ds : List PyData} (h : shortD (.tuple ds) = true) : ds.length ≤ 60 ∧ ∀ d ∈ ds, shortD d = true := by
  have z := Bool.and_eq_true_iff.mp (show (decide (ds.length ≤ 60) && shortDs ds) = true from h)
  have key : ∀ ds : List PyData, shortDs ds = true → ∀ d ∈ ds, shortD d = true := by
    intro ds
    induction ds with
    | nil => intro _ d hd; cases hd
    | cons x ds ih =>
      intro h d hd
      have y := Bool.and_eq_true_iff.mp (show (shortD x && shortDs ds) = true from h)
      rcases List.mem_cons.mp hd with rfl | hd
      · exact y.1
      · exact ih y.2 d hd
  exact ⟨of_decide_eq_true z.1, key ds z.2⟩
section
variable {P : Program} {w : World} {K : PySem.W.Frag} {mg : Str → Option Value} {base : Heap}
theorem ok_is_form (T : Bt mg) (Tt : Ut4 K mg) (GT : Kn P w K mg base CX0 "is_term" 3 ["value"] (spDS K termD)) (GR : Kn P w K mg base CX0 "is_ratio" 2 ["value"] (spD K isRat)) (D : Df K mg "is_form" s_is_form ["value"]) :
    Kn P w K mg base CX0 "is_form" 4 ["value"] (spDS K formD) := by
  obtain ⟨f, fd, F, hm, hb⟩ := D
  obtain ⟨f_is_term, fd_is_term, G_is_term, m_is_term, k_is_term, b_is_term⟩ := GT
  obtain ⟨f_is_ratio, fd_is_ratio, G_is_ratio, m_is_ratio, k_is_ratio, b_is_ratio⟩ := GR
  refine ⟨f, fd, F.ok sc_is_form (fun vs H Q E h => ?_) (fun cdv A outer s H vs Q E hr h => ?_), hm, F.kp, hb⟩
  · obtain ⟨v, d, rfl, _⟩ := h
    rfl
  · obtain ⟨v, d, rfl, hd, hsh, q⟩ := h
    refine ⟨_, (pss_cons (ps_if (PW.pt (pw_or (pt_not (pt_val (pe_callB (cr_isi (K := K) rfl) (by rfl) T.n_isinstance (by decide +kernel) (pa_cons (pv 0) (pa_cons (pe_bltn (v := .ty "tuple") (by rfl) T.n_tuple (by decide +kernel) rfl) pa_nil))))) (pw_or1 (pt_cmpR op_ne (pe_callB call_len_seq (by rfl) T.n_len (by decide +kernel) (pa_cons (pv 0) pa_nil)) pe_int (nomark _))))) (pss_one (ps_ret pe_bl)) pss_nil)
      (pss_cons (ps_asg (pv 0) (pg_tup (by rfl) (pgs_cons (pg_name (i := 1) sc_is_form.nd rfl (Or.inl rfl)) (pgs_cons (pg_name (i := 2) sc_is_form.nd rfl (Or.inl rfl)) pgs_nil))))
      (pss_cons (ps_if (PW.pt (pw_or (pt_not (pt_val (pe_callB (cr_isi (K := K) rfl) (by rfl) T.n_isinstance (by decide +kernel) (pa_cons (pv 1) (pa_cons (pe_bltn (v := .ty "tuple") (by rfl) T.n_tuple (by decide +kernel) rfl) pa_nil))))) (pw_or1 (pt_not (pt_val (pe_call G_is_ratio (hr.mono (by omega)) rfl m_is_ratio k_is_ratio b_is_ratio .nil pass0 (pa_cons (pv 2) pa_nil))))))) (pss_one (ps_ret pe_bl)) pss_nil)
      (pss_cons (ps_if (pt_not (pt_val (pe_callB (cr_all rfl) (by rfl) T.n_all (by decide +kernel) (pa_cons (pe_lc (own := [("term", 4)]) rfl sc_is_form.nd (pi_tup (pv 1)) (blkOk_by (N := ["value", "terms", "constant", "names", "term", "name", "_"]) (sc := defScope s_is_form) (by decide +kernel)) (fun _ _ _ _ _ => (pg_name (i := 4) sc_is_form.nd rfl (Or.inl rfl))) (fun _ _ _ _ _ => pts_nil) (fun _ _ _ _ _ => (pe_call G_is_term (hr.mono (by omega)) rfl m_is_term k_is_term b_is_term .nil pass0 (pa_cons (pv 4) pa_nil)))) pa_nil)))) (pss_one (ps_ret pe_bl)) pss_nil)
      (pss_cons (ps_setLc (i := 3) (own := [("name", 5), ("_", 6)]) rfl sc_is_form.nd rfl rfl (sw_true rfl rfl rfl (by decide +kernel)) (pi_tup (pv 1)) (blkOk_by (N := ["value", "terms", "constant", "names", "term", "name", "_"]) (sc := defScope s_is_form) (by decide +kernel)) (fun _ _ _ _ _ => (pg_tupK (K := K) (n := 2) rfl (by rfl) (pgs_cons (pg_name (i := 5) sc_is_form.nd rfl (Or.inl rfl)) (pgs_cons (pg_name (i := 6) sc_is_form.nd rfl (Or.inl rfl)) pgs_nil)) (by rfl) (by rfl))) (fun _ _ _ _ _ => pts_nil) (fun _ _ _ _ _ => (pv 5)))
      (pss_one (ps_ret (pe_cmpR (op_eqD hr.units) (pv 3) (pe_callB (cr_sortTxt (by rfl)) (by rfl) Tt.n_sorted (by decide +kernel) (pa_cons (pe_callTy (cr_setTxt (by rfl)) (by rfl) Tt.n_set (by decide +kernel) (pa_cons (pv 3) pa_nil)) pa_nil)) (nomark _))))))))), ?_⟩
    refine ⟨_, rfl, _, _, _, _, _, rfl, .ty _, dp_ty hd, kit_ty (kb_tup d), _, rfl, ?_⟩
    refine ite2 (fun c => ?_) (fun c => ?_)
    · have e : formD d = false := by cases d <;> first | rfl | cases c
      have q0 := q H (Same.refl H)
      rw [e] at q0
      exact q0
    · obtain ⟨ds, rfl⟩ : ∃ ds, d = .tuple ds := by cases d <;> first | exact ⟨_, rfl⟩ | exact absurd rfl c
      cases hd with
      | @tup a xs _ hs ha =>
        have hl := dps_len ha
        refine ⟨_, rfl, a, _, rfl, .inr hs, rfl, _, rfl, ?_⟩
        refine ite2 (fun c2 => ?_) (fun c2 => ?_)
        · have e : formD (.tuple ds) = false := by
            match ds, xs, hl, c2 with
            | [], _, _, _ => rfl
            | [_], _, _, _ => rfl
            | [_, _], xs, hl, c2 =>
              have hl2 : xs.length = 2 := hl
              rw [hl2] at c2
              exact absurd c2 (by decide)
            | _ :: _ :: _ :: _, _, _, _ => rfl
          have q0 := q H (Same.refl H)
          rw [e] at q0
          exact q0
        · have h2 : xs.length = 2 := by
            by_cases z : (xs.length : Int) = 2
            · omega
            · exact absurd (by simp [z]) c2
          obtain ⟨d1, d2, rfl⟩ : ∃ d1 d2, ds = [d1, d2] := by
            rw [h2] at hl
            match ds, hl with
            | [d1, d2], _ => exact ⟨d1, d2, rfl⟩
          cases ha with
          | @cons x1 _ _ _ h1 ha =>
            cases ha with
            | @cons x2 _ _ _ hx2 ha =>
              cases ha
              have hsh1 := (short_tup hsh).2 d1 (List.mem_cons_self ..)
              refine ⟨_, rfl, a, _, rfl, hs, rfl, x1, _, rfl, x2, _, rfl, rfl, ?_⟩
              refine ⟨_, rfl, _, _, _, _, _, rfl, .ty _, dp_ty h1, kit_ty (kb_tup d1), _, rfl, ?_⟩
              refine ite2 (fun c3 => ?_) (fun c3 => ?_)
              · have e : formD (.tuple [d1, d2]) = false := by cases d1 <;> first | rfl | cases c3
                have q0 := q H (Same.refl H)
                rw [e] at q0
                exact q0
              · obtain ⟨ts, rfl⟩ : ∃ ts, d1 = .tuple ts := by cases d1 <;> first | exact ⟨_, rfl⟩ | exact absurd rfl c3
                refine ⟨_, rfl, x2, d2, rfl, hx2, fun H1 s1 => ⟨_, rfl, ?_⟩⟩
                refine ite2 (fun c4 => ?_) (fun c4 => ?_)
                · have e : formD (.tuple [.tuple ts, d2]) = false := by
                    show (isRat d2 && _) = false
                    rw [Bool.not_eq_true'] at c4
                    rw [c4, Bool.false_and]
                  have q0 := q H1 s1
                  rw [e] at q0
                  exact q0
                · have hr2 : isRat d2 = true := by
                    cases z : isRat d2 with
                    | true => rfl
                    | false => exact absurd (show (!isRat d2) = true by rw [z]; rfl) c4
                  cases h1 with
                  | @tup a1 ys _ hs1 ha1 =>
                    have hl1 := dps_len ha1
                    have hst := short_tup hsh1
                    have hs1' := same_seqT s1 hs1
                    refine ⟨_, rfl, a1, rfl, ⟨_, hs1'⟩, fun D hD => ?_⟩
                    refine lc_tup (K := K) (a := a1) (xs := ys) (fun i H' => Same H1 H' ∧ H' D = some (.lst (((ts.take i).map termD).map V.bl))) ⟨same_new hD _, upd_same⟩ (fun i H' _ h => same_seqT h.1 hs1') ?_ ?_
                    · rintro i x H2 hx ⟨s2, hacc⟩
                      obtain ⟨dt, hdt, hdx⟩ := dps_get ha1 hx
                      refine ⟨rfl, _, rfl, x, dt, rfl, dp_same (s1.trans s2) _ _ hdx, hst.2 dt (List.mem_of_getElem? hdt), fun H3 s3 => ?_⟩
                      refine ⟨_, s3 _ _ hacc, ?_, same_upd (s2.trans s3) hD, ?_⟩
                      · rw [List.length_map, List.length_map, List.length_take]
                        exact small1000 (by omega)
                      · rw [upd_same, take_more hdt, List.map_append, List.map_append]
                        rfl
                    · rintro H2 ⟨s2, hacc⟩
                      rw [hl1, List.take_length] at hacc
                      refine ⟨D, _, rfl, SqL.of hacc, _, rfl, ?_⟩
                      have eall : (ts.map termD).all id = ts.all termD := by rw [List.all_map]; rfl
                      rw [eall]
                      have s12 := s1.trans s2
                      refine ite2 (fun c5 => ?_) (fun c5 => ?_)
                      · have e : formD (.tuple [.tuple ts, d2]) = false := by
                          show (isRat d2 && (ts.all termD && _)) = false
                          rw [Bool.not_eq_true'] at c5
                          rw [c5, Bool.false_and, Bool.and_false]
                        have q0 := q H2 s12
                        rw [e] at q0
                        exact q0
                      · have hat : ts.all termD = true := by
                          cases z : ts.all termD with
                          | true => rfl
                          | false => exact absurd (show (!ts.all termD) = true by rw [z]; rfl) c5
                        have ht := List.all_eq_true.mp hat
                        have hs2' := same_seqT s12 hs1
                        refine ⟨_, rfl, a1, rfl, ⟨_, hs2'⟩, fun D2 hD2 => ?_⟩
                        refine lc_tup (K := K) (a := a1) (xs := ys) (fun i H' => Same H2 H' ∧ H' D2 = some (.lst (((ts.take i).map fstName).map V.str))) ⟨same_new hD2 _, upd_same⟩ (fun i H' _ h => same_seqT h.1 hs2') ?_ ?_
                        · rintro i x H3 hx ⟨s3, hacc2⟩
                          obtain ⟨dt, hdt, hdx⟩ := dps_get ha1 hx
                          have hdm := List.mem_of_getElem? hdt
                          obtain ⟨nm, r, rfl, _⟩ := term_shape (ht dt hdm)
                          have hdx3 := dp_same (s12.trans s3) _ _ hdx
                          cases hdx3 with
                          | @tup at_ zs _ hsz haz =>
                            cases haz with
                            | @cons n1 _ _ _ hn haz =>
                              cases haz with
                              | @cons r1 _ _ _ hr1 haz =>
                                cases haz
                                cases hn
                                refine ⟨_, _, rfl, hsz, rfl, _, _, rfl, _, _, rfl, rfl, rfl, _, rfl, ?_⟩
                                refine ⟨_, hacc2, ?_, same_upd s3 hD2, ?_⟩
                                · rw [List.length_map, List.length_map, List.length_take]
                                  exact small1000 (by omega)
                                · rw [upd_same, take_more hdt, List.map_append, List.map_append]
                                  rfl
                        · rintro H3 ⟨s3, hacc2⟩
                          rw [hl1, List.take_length] at hacc2
                          refine ⟨_, rfl, _, rfl, D2, ts.map fstName, rfl, SqL.of hacc2, (by rw [List.length_map]; omega), fun p np => ?_⟩
                          have s4 := same_new np (SetT P w p (ts.map fstName))
                          refine ⟨p, ts.map fstName, rfl, upd_same, (by rw [List.length_map]; omega), fun zs p2 nd same so np2 => ?_⟩
                          have s5 := same_new np2 (.lst (zs.map V.str))
                          have oks : ∀ x ∈ ts.map fstName, PyData.strOk x = true := fun x hx => by
                            obtain ⟨dt, hdm, rfl⟩ := List.mem_map.mp hx
                            obtain ⟨nm, r, rfl, hn, _⟩ := term_shape (ht dt hdm)
                            exact name_ok hn
                          refine ⟨strD (ts.map fstName), strD zs, .lst (SqL.of (s5 _ _ (s4 _ _ hacc2))) (dps_strs _), .lst (SqL.of upd_same) (dps_strs _), shp_strs oks, shp_strs fun x hx => oks x ((same x).mp hx), ?_⟩
                          rw [eqv_strs, order_is nd same so]
                          have e : formD (.tuple [.tuple ts, d2]) = inOrder (ts.map fstName) := by
                            show (isRat d2 && (ts.all termD && inOrder (ts.map fstName))) = _
                            rw [hr2, hat, Bool.true_and, Bool.true_and]
                          rw [← e]
                          exact q _ (s12.trans (s3.trans (s4.trans s5)))
end

def numD (z : Int × Int) : PyData := rat z.1 z.2
def termN (x : Str) (z : Int × Int) : PyData := .tuple [.str x, numD z]
def formN (ts : List (Str × (Int × Int))) (c : Int × Int) : PyData := .tuple [.tuple (ts.map fun t => termN t.1 t.2), numD c]
def spConstF (K : PySem.W.Frag) : Sp := fun vs H Q _ => ∃ (v : V) (z : Int × Int), vs = [v] ∧ Nv K H v z ∧ ∀ r H', Same H H' → Dp K H' r (.tuple [.tuple [], numD z]) → Q r H'
def spCellF (K : PySem.W.Frag) : Sp := fun vs H Q _ => ∃ x : Str, vs = [.str x] ∧ ∀ r H', Same H H' → Dp K H' r (.tuple [.tuple [termN x (1, 1)], numD (0, 1)]) → Q r H'
def spNamesIn (K : PySem.W.Frag) : Sp := fun vs H Q _ => ∃ (v : V) (ts : List (Str × (Int × Int))) (c : Int × Int), vs = [v] ∧ Dp K H v (formN ts c) ∧ ts.length ≤ 60 ∧ ∀ r H', Same H H' → Dp K H' r (.tuple ((ts.map (·.1)).map PyData.str)) → Q r H'
section
variable {P : Program} {w : World} {K : PySem.W.Frag} {mg : Str → Option Value} {base : Heap}
theorem ok_constant_form {C : Addr} (GA : Kn P w K mg base (L2.CX P w) "as_ratio" 3 ["value"] (spAsRatio K C)) (D : Df K mg "constant_form" s_constant_form ["number"]) : Kn P w K mg base CX0 "constant_form" 4 ["number"] (spConstF K) := by
  obtain ⟨f, fd, F, hm, hb⟩ := D
  obtain ⟨f_as_ratio, fd_as_ratio, G_as_ratio, m_as_ratio, k_as_ratio, b_as_ratio⟩ := GA
  refine ⟨f, fd, F.ok sc_constant_form (fun vs H Q E h => ?_) (fun cdv A outer s H vs Q E hr h => ?_), hm, F.kp, hb⟩
  · obtain ⟨v, z, rfl, _⟩ := h
    rfl
  · obtain ⟨v, z, rfl, hv, q⟩ := h
    refine ⟨_, (pss_one (ps_ret (pe_tup (pa_cons (pe_tup pa_nil) (pa_cons (pe_call G_as_ratio (hr.mono (by omega)) rfl m_as_ratio k_as_ratio b_as_ratio .nil passL (pa_cons (pv 0) pa_nil)) pa_nil))))), ?_⟩
    obtain ⟨d1, hd1, e1⟩ := hv
    refine ⟨(by show 0 ≤ sizeLine; decide), fun p np => ?_⟩
    have s1 := same_new np (.tup [])
    refine ⟨_, rfl, v, d1, rfl, dp_same s1 _ _ hd1, fun t m r H1 e s2 hr1 => ?_, fun e => by rw [e1] at e; cases e⟩
    obtain rfl : z = (t, m) := Option.some.inj (e1.symm.trans e)
    refine ⟨(by show 2 ≤ sizeLine; decide), fun p2 np2 => ?_⟩
    have s3 := same_new np2 (.tup [.ref p, r])
    exact q _ _ (s1.trans (s2.trans s3)) (.tup (SqT.of upd_same) (.cons (.tup (SqT.of (s3 _ _ (s2 _ _ upd_same))) .nil) (.cons (dp_same s3 _ _ hr1) .nil)))
theorem ok_cell_form (Tt : Ut4 K mg) (D : Df K mg "cell_form" s_cell_form ["name"]) : Kn P w K mg base CX0 "cell_form" 1 ["name"] (spCellF K) := by
  obtain ⟨az, hz, saz⟩ := Tt.g_zero
  obtain ⟨ao, ho, sao⟩ := Tt.g_one
  obtain ⟨f, fd, F, hm, hb⟩ := D
  refine ⟨f, fd, F.ok sc_cell_form (fun vs H Q E h => ?_) (fun cdv A outer s H vs Q E hr h => ?_), hm, F.kp, hb⟩
  · obtain ⟨x, rfl, _⟩ := h
    rfl
  · obtain ⟨x, rfl, q⟩ := h
    refine ⟨_, (pss_one (ps_ret (pe_tup (pa_cons (pe_tup (pa_cons (pe_tup (pa_cons (pv 0) (pa_cons (pe_glob (v := .ref ao) rfl ho rfl) pa_nil))) pa_nil)) (pa_cons (pe_glob (v := .ref az) rfl hz rfl) pa_nil))))), ?_⟩
    refine ⟨_, rfl, (by show 2 ≤ sizeLine; decide), fun p np => ⟨(by show 1 ≤ sizeLine; decide), fun p2 np2 => ⟨(by show 2 ≤ sizeLine; decide), fun p3 np3 => ?_⟩⟩⟩
    have s1 := same_new np (.tup [.str x, .ref ao])
    have s2 := same_new np2 (.tup [.ref p])
    have s3 := same_new np3 (.tup [.ref p2, .ref az])
    refine q _ _ (s1.trans (s2.trans s3)) (.tup (SqT.of upd_same) (.cons (.tup (SqT.of (s3 _ _ upd_same)) (.cons (.tup (SqT.of (s3 _ _ (s2 _ _ upd_same))) (.cons (.str x) (.cons ?_ .nil))) .nil)) (.cons ?_ .nil)))
    · exact .tup (sao _) (.cons (.int 1) (.cons (.int 1) .nil))
    · exact .tup (saz _) (.cons (.int 0) (.cons (.int 1) .nil))
theorem ok_names_in (T : Bt mg) (D : Df K mg "names_in" s_names_in ["form"]) : Kn P w K mg base CX0 "names_in" 1 ["form"] (spNamesIn K) := by
  obtain ⟨f, fd, F, hm, hb⟩ := D
  refine ⟨f, fd, F.ok sc_names_in (fun vs H Q E h => ?_) (fun cdv A outer s H vs Q E hr h => ?_), hm, F.kp, hb⟩
  · obtain ⟨v, ts, c, rfl, _⟩ := h
    rfl
  · obtain ⟨v, ts, c, rfl, hv, hl, q⟩ := h
    refine ⟨_, (pss_one (ps_ret (pe_callTy call_tuple_of (by rfl) T.n_tuple (by decide +kernel) (pa_cons (pe_lc (own := [("name", 1), ("_", 2)]) rfl sc_names_in.nd (pi_tup (pe_ix ix_tup (pv 0) pe_int (fun _ _ => rfl))) (blkOk_by (N := ["form", "name", "_"]) (sc := defScope s_names_in) (by decide +kernel)) (fun _ _ _ _ _ => (pg_tupK (K := K) (n := 2) rfl (by rfl) (pgs_cons (pg_name (i := 1) sc_names_in.nd rfl (Or.inl rfl)) (pgs_cons (pg_name (i := 2) sc_names_in.nd rfl (Or.inl rfl)) pgs_nil)) (by rfl) (by rfl))) (fun _ _ _ _ _ => pts_nil) (fun _ _ _ _ _ => (pv 1))) pa_nil)))), ?_⟩
    cases hv with
    | @tup a xs _ hs ha =>
      cases ha with
      | @cons x1 _ _ _ h1 ha =>
        cases h1 with
        | @tup a1 ys _ hs1 ha1 =>
          have hl1 := dps_len ha1
          rw [List.length_map] at hl1
          refine ⟨_, rfl, a, _, _, .ref a1, rfl, rfl, hs, at_of (j := 0) rfl rfl, a1, rfl, ⟨_, hs1⟩, fun D hD => ?_⟩
          refine lc_tup (K := K) (a := a1) (xs := ys) (fun i H' => Same H H' ∧ H' D = some (.lst (((ts.take i).map (·.1)).map V.str))) ⟨same_new hD _, upd_same⟩ (fun i H' _ h => same_seqT h.1 hs1) ?_ ?_
          · rintro i x H3 hx ⟨s3, hacc2⟩
            obtain ⟨dt, hdt, hdx⟩ := dps_get ha1 hx
            rw [List.getElem?_map] at hdt
            obtain ⟨t, ht, rfl⟩ : ∃ t, ts[i]? = some t ∧ termN t.1 t.2 = dt := by
              cases z : ts[i]? with
              | none => rw [z] at hdt; cases hdt
              | some t => rw [z] at hdt; exact ⟨t, rfl, Option.some.inj hdt⟩
            have hdx3 := dp_same s3 _ _ hdx
            cases hdx3 with
            | @tup at_ zs _ hsz haz =>
              cases haz with
              | @cons n1 _ _ _ hn haz =>
                cases haz with
                | @cons r1 _ _ _ hr1 haz =>
                  cases haz
                  cases hn
                  refine ⟨_, _, rfl, hsz, rfl, _, _, rfl, _, _, rfl, rfl, rfl, _, rfl, ?_⟩
                  refine ⟨_, hacc2, ?_, same_upd s3 hD, ?_⟩
                  · rw [List.length_map, List.length_map, List.length_take]
                    exact small1000 (by omega)
                  · rw [upd_same, take_more ht, List.map_append, List.map_append]
                    rfl
          · rintro H3 ⟨s3, hacc2⟩
            rw [hl1, List.take_length] at hacc2
            refine ⟨D, _, rfl, .inl ⟨SqL.of hacc2, fun p np => ?_⟩⟩
            exact q _ _ (s3.trans (same_new np _)) (.tup (SqT.of upd_same) (dps_strs _))
end

theorem ix_tupK {X : Cx} {K : PySem.W.Frag} (h : X.K = K) : IxR X (rIxT K) := by
  subst h
  exact ix_tup
/-- a comprehension over a text -/
theorem lc_str {l : List Nat} {g : TG} {tt : TT} {te : TE} {vs : List Nat} {σ : St} {H1 : Hp} {D : Addr} {Qd : Hp → Prop} (Pv : Nat → Hp → Prop) (h0 : Pv 0 (upd H1 D (.lst [])))
    (hs : ∀ i c H, l[i]? = some c → Pv i H → g (tx [c]) (wipe σ vs) H fun σ2 H2 => wipe σ2 vs = wipe σ vs ∧ tt σ2 H2 fun b H3 => if b = true then te σ2 H3 fun y H4 => ∃ acc, H4 D = some (.lst acc) ∧ acc.length < sizeLine ∧ Pv (i + 1) (upd H4 D (.lst (acc ++ [y]))) else Pv (i + 1) H3)
    (hd : ∀ H, Pv l.length H → Qd H) :
    ∃ W : Nat → Nat → Hp → Prop, (∃ m, W 0 m (upd H1 D (.lst []))) ∧ ∀ i m H, W i m H →
      ((Its (SX.S l)).stop i H ∧ Qd H) ∨ ((Its (SX.S l)).go i H ∧ ∃ Nx : Hp → Prop, (∀ H', Nx H' → ∃ m', m' < m ∧ W (i + 1) m' H') ∧ ∀ x H', (Its (SX.S l)).yld i H x H' → g x (wipe σ vs) H' fun σ2 H2 => wipe σ2 vs = wipe σ vs ∧ tt σ2 H2 fun b H3 => if b = true then te σ2 H3 fun y H4 => ∃ acc, H4 D = some (.lst acc) ∧ acc.length < sizeLine ∧ Nx (upd H4 D (.lst (acc ++ [y]))) else Nx H3) := by
  have hsz : (SX.S l).cps.size = l.length := by simp [SX.S]
  refine ⟨fun i m H => m = l.length - i ∧ i ≤ l.length ∧ Pv i H, ⟨l.length, by simp, Nat.zero_le _, h0⟩, ?_⟩
  rintro i m H ⟨rfl, hi, p⟩
  by_cases lt : i < l.length
  · refine .inr ⟨by show i < (SX.S l).cps.size; omega, Pv (i + 1), fun H' p' => ⟨l.length - (i + 1), by omega, rfl, lt, p'⟩, fun x H' y => ?_⟩
    obtain ⟨e, c, hc, rfl⟩ := y
    subst e
    exact hs i c _ (by rw [← hc]; simp [SX.S]) p
  · have e : i = l.length := by omega
    subst e
    exact .inl ⟨by show (SX.S l).cps.size ≤ l.length; omega, hd _ p⟩
theorem letters_S : Str.ofString "abcdefghijklmnopqrstuvwxyz" = SX.S [97, 98, 99, 100, 101, 102, 103, 104, 105, 106, 107, 108, 109, 110, 111, 112, 113, 114, 115, 116, 117, 118, 119, 120, 121, 122] := by decide +kernel
theorem az_mem (c : Nat) : decide (c ∈ [97, 98, 99, 100, 101, 102, 103, 104, 105, 106, 107, 108, 109, 110, 111, 112, 113, 114, 115, 116, 117, 118, 119, 120, 121, 122]) = az c := by
  unfold az
  rw [Bool.eq_iff_iff, decide_eq_true_eq, Bool.and_eq_true, decide_eq_true_eq, decide_eq_true_eq]
  simp only [List.mem_cons, List.not_mem_nil, or_false]
  omega
section
variable {P : Program} {w : World} {K : PySem.W.Frag} {mg : Str → Option Value} {base : Heap}
theorem ok_lis_name (T : Bt mg) (Tt : Ut4 K mg) (D : Df K mg "_law_is_name" s_l_is_name ["_law_value"]) : Kn P w K mg base CX0 "_law_is_name" 1 ["_law_value"] (spDS K nameD) := by
  obtain ⟨f, fd, F, hm, hb⟩ := D
  refine ⟨f, fd, F.ok sc_l_is_name (fun vs H Q E h => ?_) (fun cdv A outer s H vs Q E hr h => ?_), hm, F.kp, hb⟩
  · obtain ⟨v, d, rfl, _⟩ := h
    rfl
  · obtain ⟨v, d, rfl, hd, hsh, q⟩ := h
    have q0 := q H (Same.refl H)
    refine ⟨_, (pss_cons (ps_if (PW.pt (pw_or (pt_not (pt_val (pe_callB (cr_isi (K := K) rfl) (by rfl) T.n_isinstance (by decide +kernel) (pa_cons (pv 0) (pa_cons (pe_bltn (v := .ty "str") (by rfl) Tt.n_str (by decide +kernel) rfl) pa_nil))))) (pw_or (pt_not (pt_chain op_lt op_lt pe_int (pe_callB call_len_str (by rfl) T.n_len (by decide +kernel) (pa_cons (pv 0) pa_nil)) pe_int)) (pw_or1 (pt_cmpR op_in_seq (pv 0) (pe_lst (pa_cons pe_str (pa_cons pe_str pa_nil))) (by rfl)))))) (pss_one (ps_ret pe_bl)) pss_nil)
      (pss_one (ps_ret (pe_callB (cr_all rfl) (by rfl) T.n_all (by decide +kernel) (pa_cons (pe_lc (own := [("_law_letter", 1)]) rfl sc_l_is_name.nd (pi_str (pv 0)) (blkOk_by (N := ["_law_value", "_law_letter"]) (sc := defScope s_l_is_name) (by decide +kernel)) (fun _ _ _ _ _ => (pg_name (i := 1) sc_l_is_name.nd rfl (Or.inl rfl))) (fun _ _ _ _ _ => pts_nil) (fun _ _ _ _ _ => (pe_cmpR op_in_str (pv 1) pe_str (by rfl)))) pa_nil))))), ?_⟩
    refine ⟨_, rfl, _, _, _, _, _, rfl, .ty _, dp_ty hd, kit_ty (kb_str d), _, rfl, ?_⟩
    refine ite2 (fun c => ?_) (fun c => ?_)
    · have e : nameD d = false := by cases d <;> first | rfl | cases c
      rw [e] at q0
      exact q0
    · obtain ⟨x, rfl⟩ : ∃ x, d = .str x := by cases d <;> first | exact ⟨_, rfl⟩ | exact absurd rfl c
      obtain ⟨l, rfl⟩ : ∃ l, x = SX.S l := ⟨x.cps.toList, (SX.S_tl x).symm⟩
      cases hd
      have hlen : l.length ≤ 100 := by
        have z := of_decide_eq_true (show decide ((SX.S l).length ≤ 100) = true from hsh)
        rw [SX.S_len] at z
        exact z
      have hsl : (SX.S l).length ≤ sizeLine := by rw [SX.S_len]; exact Nat.le_trans hlen (by decide)
      rw [nameD_S] at q0
      -- 0 < len(value) < 9
      have lz : ((SX.S l).length : Int) = (l.length : Int) := by rw [SX.S_len]
      refine ⟨_, rfl, _, rfl, hsl, _, _, rfl, rfl, _, rfl, ?_⟩
      refine ite2 (fun k1 => ?_) (fun k1 => ?_)
      · have p1 : 0 < l.length := by have := of_decide_eq_true k1; omega
        refine ⟨_, _, rfl, rfl, _, rfl, ?_⟩
        refine ite2 (fun k2 => ?_) (fun k2 => ?_)
        · have e : nameL l = false := by
            rw [Bool.not_eq_true', decide_eq_false_iff_not] at k2
            unfold nameL
            rw [show decide (l.length < 9) = false from decide_eq_false (by omega)]
            simp
          rw [e] at q0
          exact q0
        · have p2 : l.length < 9 := by
            have z : ¬ (!decide (((SX.S l).length : Int) < 9)) = true := k2
            rw [Bool.not_eq_true', decide_eq_false_iff_not, Classical.not_not] at z
            omega
          refine ⟨_, rfl, (by show 2 ≤ sizeLine; decide), fun p np => ?_⟩
          have s1 := same_new np (.lst [V.str "sum", V.str "average"])
          refine ⟨p, _, rfl, .inl (SqL.of upd_same), rfl, rfl, _, rfl, ?_⟩
          have hw := words_in l
          refine ite2 (fun c2 => ?_) (fun c2 => ?_)
          · have z := of_decide_eq_true (hw.symm.trans c2)
            have e : nameL l = false := by
              unfold nameL
              rcases z with z | z
              · rw [z]; rfl
              · rw [z]; rfl
            have q1 := q _ s1
            rw [nameD_S, e] at q1
            exact q1
          · have z := of_decide_eq_false (hw.symm.trans (Bool.eq_false_iff.mpr c2))
            have e : nameL l = l.all az := by
              unfold nameL
              rw [decide_eq_true (List.ne_nil_of_length_pos p1), decide_eq_true p2, decide_eq_true (p := l ≠ [115, 117, 109]) (fun y => z (.inl y)), decide_eq_true (p := l ≠ [97, 118, 101, 114, 97, 103, 101]) (fun y => z (.inr y))]
              rw [Bool.and_true, Bool.and_true, Bool.true_and, Bool.true_and]
            refine ⟨_, rfl, _, rfl, fun D hD => ?_⟩
            refine lc_str (l := l) (fun i H' => Same (upd H p (.lst [V.str "sum", V.str "average"])) H' ∧ H' D = some (.lst (((l.take i).map az).map V.bl))) ⟨same_new hD _, upd_same⟩ ?_ ?_
            · rintro i ch H2 hch ⟨s2, hacc⟩
              refine ⟨rfl, _, rfl, _, _, rfl, rfl, _, hacc, ?_, same_upd s2 hD, ?_⟩
              · rw [List.length_map, List.length_map, List.length_take]
                exact small1000 (by omega)
              · rw [upd_same, letters_S, SX.in_one, az_mem, take_more hch, List.map_append, List.map_append]
                rfl
            · rintro H2 ⟨s2, hacc⟩
              rw [List.take_length] at hacc
              refine ⟨D, _, rfl, SqL.of hacc, ?_⟩
              have q1 := q _ (s1.trans s2)
              rw [nameD_S, e] at q1
              have eall : (l.map az).all id = l.all az := by rw [List.all_map]; rfl
              rw [eall]
              exact q1
      · have p1 : ¬ 0 < l.length := fun z => k1 (decide_eq_true (by omega))
        have e : nameL l = false := by
          have : l = [] := List.length_eq_zero_iff.mp (by omega)
          rw [this]
          rfl
        rw [e] at q0
        exact ⟨_, rfl, q0⟩
theorem ok_lis_form (T : Bt mg) (Tt : Ut4 K mg) (GN : Kn P w K mg base CX0 "_law_is_name" 1 ["_law_value"] (spDS K nameD)) (GR : Kn P w K mg base CX0 "_law_is_ratio" 2 ["_law_value"] (spD K isRat)) (D : Df K mg "_law_is_form" s_l_is_form ["_law_value"]) :
    Kn P w K mg base CX0 "_law_is_form" 3 ["_law_value"] (spDS K formD) := by
  obtain ⟨f, fd, F, hm, hb⟩ := D
  obtain ⟨f_l_is_name, fd_l_is_name, G_l_is_name, m_l_is_name, k_l_is_name, b_l_is_name⟩ := GN
  obtain ⟨f_l_is_ratio, fd_l_is_ratio, G_l_is_ratio, m_l_is_ratio, k_l_is_ratio, b_l_is_ratio⟩ := GR
  refine ⟨f, fd, F.ok sc_l_is_form (fun vs H Q E h => ?_) (fun cdv A outer s H vs Q E hr h => ?_), hm, F.kp, hb⟩
  · obtain ⟨v, d, rfl, _⟩ := h
    rfl
  · obtain ⟨v, d, rfl, hd, hsh, q⟩ := h
    refine ⟨_, (pss_cons (ps_if (PW.pt (pw_or (pt_not (pt_val (pe_callB (cr_isi (K := K) rfl) (by rfl) T.n_isinstance (by decide +kernel) (pa_cons (pv 0) (pa_cons (pe_bltn (v := .ty "tuple") (by rfl) T.n_tuple (by decide +kernel) rfl) pa_nil))))) (pw_or (pt_cmpR op_ne (pe_callB call_len_seq (by rfl) T.n_len (by decide +kernel) (pa_cons (pv 0) pa_nil)) pe_int (nomark _)) (pw_or1 (pt_not (pt_val (pe_callB (cr_isi (K := K) rfl) (by rfl) T.n_isinstance (by decide +kernel) (pa_cons (pe_ix ix_tup (pv 0) pe_int (fun _ _ => rfl)) (pa_cons (pe_bltn (v := .ty "tuple") (by rfl) T.n_tuple (by decide +kernel) rfl) pa_nil))))))))) (pss_one (ps_ret pe_bl)) pss_nil)
      (pss_cons (ps_for PassesOwn.never rfl (pi_tup (pe_ix ix_tup (pv 0) pe_int (fun _ _ => rfl))) (pg_name (i := 1) sc_l_is_form.nd rfl (Or.inl rfl))
        (pss_cons (ps_if (PW.pt (pw_or (pt_not (pt_val (pe_callB (cr_isi (K := K) rfl) (by rfl) T.n_isinstance (by decide +kernel) (pa_cons (pv 1) (pa_cons (pe_bltn (v := .ty "tuple") (by rfl) T.n_tuple (by decide +kernel) rfl) pa_nil))))) (pw_or (pt_cmpR op_ne (pe_callB call_len_seq (by rfl) T.n_len (by decide +kernel) (pa_cons (pv 1) pa_nil)) pe_int (nomark _)) (pw_or1 (pt_not (pt_val (pe_call G_l_is_name (hr.mono (by omega)) rfl m_l_is_name k_l_is_name b_l_is_name .nil pass0 (pa_cons (pe_ix (ix_tupK (K := K) rfl) (pv 1) pe_int (fun _ _ => rfl)) pa_nil)))))))) (pss_one (ps_ret pe_bl)) pss_nil)
      (pss_one (ps_if (PW.pt (pw_or (pt_not (pt_val (pe_call G_l_is_ratio (hr.mono (by omega)) rfl m_l_is_ratio k_l_is_ratio b_l_is_ratio .nil pass0 (pa_cons (pe_ix ix_tup (pv 1) pe_int (fun _ _ => rfl)) pa_nil)))) (pw_or1 (pt_cmpR op_eq (pe_ix ix_tup (pe_ix ix_tup (pv 1) pe_int (fun _ _ => rfl)) pe_int (fun _ _ => rfl)) pe_int (nomark _))))) (pss_one (ps_ret pe_bl)) pss_nil))))
      (pss_cons (ps_setLc (i := 2) (own := [("_law_term", 1)]) rfl sc_l_is_form.nd rfl rfl (sw_true rfl rfl rfl (by decide +kernel)) (pi_tup (pe_ix ix_tup (pv 0) pe_int (fun _ _ => rfl))) (blkOk_by (N := ["_law_value", "_law_term", "_law_names_here"]) (sc := defScope s_l_is_form) (by decide +kernel)) (fun _ _ _ _ _ => (pg_name (i := 1) sc_l_is_form.nd rfl (Or.inl rfl))) (fun _ _ _ _ _ => pts_nil) (fun _ _ _ _ _ => (pe_ix (ix_tupK (K := K) rfl) (pv 1) pe_int (fun _ _ => rfl))))
      (pss_one (ps_ret (pe_and (pe_call G_l_is_ratio (hr.mono (by omega)) rfl m_l_is_ratio k_l_is_ratio b_l_is_ratio .nil pass0 (pa_cons (pe_ix ix_tup (pv 0) pe_int (fun _ _ => rfl)) pa_nil)) (pe_one (pe_cmpR (op_eqD hr.units) (pv 2) (pe_callB (cr_sortTxt (by rfl)) (by rfl) Tt.n_sorted (by decide +kernel) (pa_cons (pe_callTy (cr_setTxt (by rfl)) (by rfl) Tt.n_set (by decide +kernel) (pa_cons (pv 2) pa_nil)) pa_nil)) (nomark _))))))))), ?_⟩
    refine ⟨_, rfl, _, _, _, _, _, rfl, .ty _, dp_ty hd, kit_ty (kb_tup d), _, rfl, ?_⟩
    refine ite2 (fun c => ?_) (fun c => ?_)
    · have e : formD d = false := by cases d <;> first | rfl | cases c
      have q0 := q H (Same.refl H)
      rw [e] at q0
      exact q0
    · obtain ⟨ds, rfl⟩ : ∃ ds, d = .tuple ds := by cases d <;> first | exact ⟨_, rfl⟩ | exact absurd rfl c
      cases hd with
      | @tup a xs _ hs ha =>
        have hl := dps_len ha
        refine ⟨_, rfl, a, _, rfl, .inr hs, rfl, _, rfl, ?_⟩
        refine ite2 (fun c2 => ?_) (fun c2 => ?_)
        · have e : formD (.tuple ds) = false := by
            match ds, xs, hl, c2 with
            | [], _, _, _ => rfl
            | [_], _, _, _ => rfl
            | [_, _], xs, hl, c2 =>
              have hl2 : xs.length = 2 := hl
              rw [hl2] at c2
              exact absurd c2 (by decide)
            | _ :: _ :: _ :: _, _, _, _ => rfl
          have q0 := q H (Same.refl H)
          rw [e] at q0
          exact q0
        · have h2 : xs.length = 2 := by
            by_cases z : (xs.length : Int) = 2
            · omega
            · exact absurd (by simp [z]) c2
          obtain ⟨d1, d2, rfl⟩ : ∃ d1 d2, ds = [d1, d2] := by
            rw [h2] at hl
            match ds, hl with
            | [d1, d2], _ => exact ⟨d1, d2, rfl⟩
          cases ha with
          | @cons x1 _ _ _ h1 ha =>
            cases ha with
            | @cons x2 _ _ _ hx2 ha =>
              cases ha
              have hsh1 := (short_tup hsh).2 d1 (List.mem_cons_self ..)
              refine ⟨_, rfl, a, _, _, x1, rfl, rfl, hs, at_of (j := 0) rfl rfl, _, _, _, _, _, rfl, .ty _, dp_ty h1, kit_ty (kb_tup d1), _, rfl, ?_⟩
              refine ite2 (fun c3 => ?_) (fun c3 => ?_)
              · have e : formD (.tuple [d1, d2]) = false := by cases d1 <;> first | rfl | cases c3
                have q0 := q H (Same.refl H)
                rw [e] at q0
                exact q0
              · obtain ⟨ts, rfl⟩ : ∃ ts, d1 = .tuple ts := by cases d1 <;> first | exact ⟨_, rfl⟩ | exact absurd rfl c3
                cases h1 with
                | @tup a1 ys _ hs1 ha1 =>
                  have hl1 := dps_len ha1
                  have hst := short_tup hsh1
                  have bad : (∃ t ∈ ts, termD t = false) → formD (.tuple [.tuple ts, d2]) = false := by
                    rintro ⟨t, ht, hf⟩
                    show (isRat d2 && (ts.all termD && _)) = false
                    have : ts.all termD = false := by
                      rw [List.all_eq_false]
                      exact ⟨t, ht, by rw [hf]; exact Bool.false_ne_true⟩
                    rw [this, Bool.false_and, Bool.and_false]
                  refine ⟨_, rfl, a, _, _, .ref a1, rfl, rfl, hs, at_of (j := 0) rfl rfl, a1, rfl, ⟨_, hs1⟩, ?_⟩
                  refine for_tup (K := K) (a := a1) (xs := ys) (fun i σ H' => Same H H' ∧ ∃ z, σ = [some (.ref a), z, none] ∧ ∀ t ∈ ts.take i, termD t = true) ⟨Same.refl H, none, rfl, fun t ht => by cases ht⟩ (fun i σ H' _ h => same_seqT h.1 hs1) ?_ ?_
                  · rintro i x σ H1 hx ⟨s1, z, rfl, hall⟩
                    obtain ⟨dt, hdt, hdx⟩ := dps_get ha1 hx
                    have hdm := List.mem_of_getElem? hdt
                    have hdx1 := dp_same s1 _ _ hdx
                    have hshd := hst.2 dt hdm
                    have out : termD dt = false → Q (.bl false) H1 := fun e => by
                      have q0 := q H1 s1
                      rw [bad ⟨dt, hdm, e⟩] at q0
                      exact q0
                    refine ⟨_, rfl, _, _, _, _, _, rfl, .ty _, dp_ty hdx1, kit_ty (kb_tup dt), _, rfl, ?_⟩
                    refine ite2 (fun k1 => ?_) (fun k1 => ?_)
                    · exact out (by cases dt <;> first | rfl | cases k1)
                    · obtain ⟨es, rfl⟩ : ∃ es, dt = .tuple es := by cases dt <;> first | exact ⟨_, rfl⟩ | exact absurd rfl k1
                      cases hdx1 with
                      | @tup at_ zs _ hsz haz =>
                        have hlz := dps_len haz
                        refine ⟨_, rfl, at_, _, rfl, .inr hsz, rfl, _, rfl, ?_⟩
                        refine ite2 (fun k2 => ?_) (fun k2 => ?_)
                        · refine out ?_
                          match es, zs, hlz, k2 with
                          | [], _, _, _ => rfl
                          | [_], _, _, _ => rfl
                          | [_, _], zs, hlz, k2 =>
                            have hl2 : zs.length = 2 := hlz
                            rw [hl2] at k2
                            exact absurd k2 (by decide)
                          | _ :: _ :: _ :: _, _, _, _ => rfl
                        · have h22 : zs.length = 2 := by
                            by_cases y : (zs.length : Int) = 2
                            · omega
                            · exact absurd (by simp [y]) k2
                          obtain ⟨e1, e2, rfl⟩ : ∃ e1 e2, es = [e1, e2] := by
                            rw [h22] at hlz
                            match es, hlz with
                            | [e1, e2], _ => exact ⟨e1, e2, rfl⟩
                          cases haz with
                          | @cons n1 _ _ _ hn haz =>
                            cases haz with
                            | @cons r1 _ _ _ hr1 haz =>
                              cases haz
                              have hse := (short_tup hshd).2 e1 (List.mem_cons_self ..)
                              refine ⟨_, rfl, at_, _, _, n1, rfl, rfl, hsz, rfl, n1, e1, rfl, hn, hse, fun H2 s2 => ⟨_, rfl, ?_⟩⟩
                              have out2 : ∀ H', Same H1 H' → termD (.tuple [e1, e2]) = false → Q (.bl false) H' := fun H' sx e => by
                                have q0 := q H' (s1.trans sx)
                                rw [bad ⟨_, hdm, e⟩] at q0
                                exact q0
                              refine ite2 (fun k3 => ?_) (fun k3 => ?_)
                              · refine out2 _ s2 ?_
                                show (nameD e1 && _) = false
                                rw [Bool.not_eq_true'] at k3
                                rw [k3, Bool.false_and]
                              · have hnm : nameD e1 = true := by
                                  cases y : nameD e1 with
                                  | true => rfl
                                  | false => exact absurd (show (!nameD e1) = true by rw [y]; rfl) k3
                                refine ⟨_, rfl, at_, _, _, r1, rfl, rfl, same_seqT s2 hsz, rfl, r1, e2, rfl, dp_same s2 _ _ hr1, fun H3 s3 => ⟨_, rfl, ?_⟩⟩
                                refine ite2 (fun k4 => ?_) (fun k4 => ?_)
                                · refine out2 _ (s2.trans s3) ?_
                                  rw [Bool.not_eq_true'] at k4
                                  have y : ratOf e2 = none := by
                                    cases h : ratOf e2 with
                                    | none => rfl
                                    | some z => unfold isRat at k4; rw [h] at k4; cases k4
                                  show (nameD e1 && (match ratOf e2 with | some z => decide (z.1 ≠ 0) | none => false)) = false
                                  rw [y, Bool.and_false]
                                · have hri : isRat e2 = true := by
                                    cases y : isRat e2 with
                                    | true => rfl
                                    | false => exact absurd (show (!isRat e2) = true by rw [y]; rfl) k4
                                  obtain ⟨rz, hrz⟩ := Option.isSome_iff_exists.mp hri
                                  have ed := ratOf_is hrz
                                  subst ed
                                  obtain ⟨pr, rfl, hpr⟩ := dp_rat_inv (dp_same (s2.trans s3) _ _ hr1)
                                  have et : termD (.tuple [e1, rat rz.1 rz.2]) = decide (rz.1 ≠ 0) := by
                                    show (nameD e1 && (match ratOf (rat rz.1 rz.2) with | some z => decide (z.1 ≠ 0) | none => false)) = _
                                    rw [hnm, hrz, Bool.true_and]
                                  refine ⟨_, rfl, at_, _, _, .ref pr, rfl, rfl, same_seqT (s2.trans s3) hsz, rfl, pr, _, _, .int rz.1, rfl, rfl, hpr, rfl, rfl, _, rfl, ?_⟩
                                  refine ite2 (fun k5 => ?_) (fun k5 => ?_)
                                  · refine out2 _ (s2.trans s3) ?_
                                    have y := of_decide_eq_true k5
                                    injection y with y
                                    rw [et, decide_eq_false (fun w => w y)]
                                  · refine ⟨s1.trans (s2.trans s3), _, rfl, fun t ht => ?_⟩
                                    rw [take_more hdt] at ht
                                    rcases List.mem_append.mp ht with ht | ht
                                    · exact hall t ht
                                    · rw [List.mem_singleton.mp ht, et]
                                      exact decide_eq_true fun w => k5 (by rw [w]; rfl)
                  · rintro σ H1 ⟨s1, z, rfl, hall⟩
                    rw [hl1, List.take_length] at hall
                    have hat : ts.all termD = true := List.all_eq_true.mpr hall
                    have ht := hall
                    have hsA := same_seqT s1 hs
                    have hs2' := same_seqT s1 hs1
                    refine ⟨_, rfl, a, _, _, .ref a1, rfl, rfl, hsA, at_of (j := 0) rfl rfl, a1, rfl, ⟨_, hs2'⟩, fun D2 hD2 => ?_⟩
                    refine lc_tup (K := K) (a := a1) (xs := ys) (fun i H' => Same H1 H' ∧ H' D2 = some (.lst (((ts.take i).map fstName).map V.str))) ⟨same_new hD2 _, upd_same⟩ (fun i H' _ h => same_seqT h.1 hs2') ?_ ?_
                    · rintro i x H3 hx ⟨s3, hacc2⟩
                      obtain ⟨dt, hdt, hdx⟩ := dps_get ha1 hx
                      obtain ⟨nm, r, rfl, _⟩ := term_shape (ht dt (List.mem_of_getElem? hdt))
                      have hdx3 := dp_same (s1.trans s3) _ _ hdx
                      cases hdx3 with
                      | @tup at_ zs _ hsz haz =>
                        cases haz with
                        | @cons n1 _ _ _ hn haz =>
                          cases haz with
                          | @cons r1 _ _ _ hr1 haz =>
                            cases haz
                            cases hn
                            refine ⟨rfl, _, rfl, at_, _, _, .str nm, rfl, rfl, hsz, rfl, ?_⟩
                            refine ⟨_, hacc2, ?_, same_upd s3 hD2, ?_⟩
                            · rw [List.length_map, List.length_map, List.length_take]
                              exact small1000 (by omega)
                            · rw [upd_same, take_more hdt, List.map_append, List.map_append]
                              rfl
                    · rintro H3 ⟨s3, hacc2⟩
                      rw [hl1, List.take_length] at hacc2
                      have s13 := s1.trans s3
                      refine ⟨_, rfl, a, _, _, x2, rfl, rfl, same_seqT s13 hs, at_of (j := 1) rfl rfl, x2, d2, rfl, dp_same s13 _ _ hx2, fun H4 s4 => ⟨_, rfl, ?_⟩⟩
                      have hform : formD (.tuple [.tuple ts, d2]) = (isRat d2 && inOrder (ts.map fstName)) := by
                        show (isRat d2 && (ts.all termD && inOrder (ts.map fstName))) = _
                        rw [hat, Bool.true_and]
                      refine ite2 (fun k => ?_) (fun k => ?_)
                      · refine ⟨_, rfl, _, rfl, D2, ts.map fstName, rfl, SqL.of (s4 _ _ hacc2), (by rw [List.length_map]; omega), fun p np => ?_⟩
                        have s5 := same_new np (SetT P w p (ts.map fstName))
                        refine ⟨p, ts.map fstName, rfl, upd_same, (by rw [List.length_map]; omega), fun zs p2 nd same so np2 => ?_⟩
                        have s6 := same_new np2 (.lst (zs.map V.str))
                        have oks : ∀ x ∈ ts.map fstName, PyData.strOk x = true := fun x hx => by
                          obtain ⟨dt, hdm, rfl⟩ := List.mem_map.mp hx
                          obtain ⟨nm, r, rfl, hn, _⟩ := term_shape (ht dt hdm)
                          exact name_ok hn
                        refine ⟨strD (ts.map fstName), strD zs, .lst (SqL.of (s6 _ _ (s5 _ _ (s4 _ _ hacc2)))) (dps_strs _), .lst (SqL.of upd_same) (dps_strs _), shp_strs oks, shp_strs fun x hx => oks x ((same x).mp hx), ?_⟩
                        rw [eqv_strs, order_is nd same so]
                        have q0 := q _ (s13.trans (s4.trans (s5.trans s6)))
                        rw [hform, k, Bool.true_and] at q0
                        exact q0
                      · have q0 := q _ (s13.trans s4)
                        rw [hform, Bool.eq_false_iff.mpr k, Bool.false_and] at q0
                        exact q0
end

theorem op_notInK {X : Cx} {K : PySem.W.Frag} (h : X.K = K) : OpR X (compareOp .NotIn) (rIn K true) := by
  subst h
  exact op_notIn_seq
theorem Box.off {H : Hp} {b g c D : Addr} {n : Nat} {o : HO} (x : Box H b g c n) (h1 : D ≠ b) (h2 : D ≠ g) (h3 : D ≠ c) : Box (upd H D o) b g c n := by
  obtain ⟨gs, cs, cur, m, B, hm⟩ := x
  exact ⟨gs, cs, cur, m, ⟨by rw [upd_ne h1.symm]; exact B.hb, by rw [upd_ne h2.symm]; exact B.hg, by rw [upd_ne h3.symm]; exact B.hc, B.bg, B.bc, B.gc, B.m0, B.lg, B.lc⟩, hm⟩
theorem Box.ne {H : Hp} {b g c D : Addr} {n : Nat} (x : Box H b g c n) (h : H D = none) : D ≠ b ∧ D ≠ g ∧ D ≠ c := by
  obtain ⟨gs, cs, cur, m, B, hm⟩ := x
  exact ⟨(ne_of_none B.hb h).symm, (ne_of_none B.hg h).symm, (ne_of_none B.hc h).symm⟩
theorem atI_some {α : Type} {xs : List α} {r : Int} (h0 : 0 ≤ r) (h1 : r < xs.length) : ∃ v, v ∈ xs ∧ atI xs r = some v := by
  obtain ⟨k, rfl⟩ : ∃ k : Nat, r = (k : Int) := ⟨r.toNat, by omega⟩
  have hk : k < xs.length := by omega
  exact ⟨xs[k], List.getElem_mem hk, atI_nat (List.getElem?_eq_getElem hk)⟩
def onesL (cs : List Nat) : List V := ((cs.map fun c => [c]).map SX.S).map V.str
theorem onesL_snoc (cs : List Nat) (c : Nat) : onesL cs ++ [tx [c]] = onesL (cs ++ [c]) := by
  unfold onesL
  rw [List.map_append, List.map_append, List.map_append]
  rfl
theorem flat_ones : ∀ cs : List Nat, (cs.map fun c => [c]).flatten = cs
  | [] => rfl
  | c :: cs => by rw [List.map_cons, List.flatten_cons, flat_ones cs]; rfl
theorem join_nil : ∀ ys : List (List Nat), TL.joinL [] ys = ys.flatten
  | [] => rfl
  | [y] => by show y = y ++ []; rw [List.append_nil]
  | y :: z :: r => by
    show y ++ ([] ++ TL.joinL [] (z :: r)) = y ++ (z :: r).flatten
    rw [join_nil (z :: r), List.nil_append]
theorem join_ones (cs : List Nat) : Txt.join (Str.ofString "") ((cs.map fun c => [c]).map SX.S) = SX.S cs := by
  rw [show Str.ofString "" = SX.S [] by decide +kernel, SX.join_S, join_nil, flat_ones]
theorem fitN {n : Nat} (h : n ≤ 5000) : n ≤ sizeLine := Nat.le_trans h (by decide)
abbrev lts : List Nat := [97, 98, 99, 100, 101, 102, 103, 104, 105, 106, 107, 108, 109, 110, 111, 112, 113, 114, 115, 116, 117, 118, 119, 120, 121, 122]
theorem inV_strs (x : Str) : ∀ ns : List Str, inV (.str x) (ns.map V.str) = decide (x ∈ ns)
  | [] => rfl
  | n :: ns => by
    show ((n == x) || inV (.str x) (ns.map V.str)) = _
    rw [inV_strs x ns, Bool.eq_iff_iff, Bool.or_eq_true, beq_iff_eq, decide_eq_true_eq, decide_eq_true_eq, List.mem_cons]
    exact ⟨fun h => h.imp Eq.symm id, fun h => h.imp Eq.symm id⟩
theorem flat_strs : ∀ ns : List Str, (ns.map V.str).all flatV = true
  | [] => rfl
  | n :: ns => by
    show (flatV (.str n) && (ns.map V.str).all flatV) = true
    rw [flat_strs ns]
    rfl
theorem free_letter {ns : List Str} (h : ns.length ≤ 25) : ∃ c ∈ lts, SX.S [c] ∉ ns := by
  refine Classical.byContradiction fun no => ?_
  have all : ∀ c ∈ lts, SX.S [c] ∈ ns := fun c hc => Classical.byContradiction fun z => no ⟨c, hc, z⟩
  obtain ⟨r, p⟩ := perm_rest (l := lts.map fun c => SX.S [c]) (ks := ns) (by decide +kernel) fun k hk => by
    obtain ⟨c, hc, rfl⟩ := List.mem_map.mp hk
    exact all c hc
  have z := p.length_eq
  rw [List.length_append, List.length_map] at z
  have : lts.length = 26 := rfl
  omega
theorem one_name {c : Nat} (h : c ∈ lts) : nameL [c] = true := by
  have key : ∀ c ∈ lts, nameL [c] = true := by decide +kernel
  exact key c h
def spNames : Sp := fun vs H Q _ => ∃ (b g c : Addr) (n : Nat), vs = [.ref b, .int 6] ∧ Box H b g c n ∧ n + 100 < 1000000 ∧
  ∀ (D : Addr) (ns : List Str) (H' : Hp), ns.length = 6 → ns.Nodup → (∀ x ∈ ns, nameL x.cps.toList = true) → H' D = some (.lst (ns.map V.str)) → H D = none → Box H' b g c (n + 66) → But b g H H' → Q (.ref D) H'
section
variable {P : Program} {w : World} {K : PySem.W.Frag} {mg : Str → Option Value} {base : Heap}
theorem ok_names (T : Bt mg) (GT : Kn P w K mg base CX0 "_law_take" 2 ["_law_box_here", "_law_size"] spTake) (D : Df K mg "_law_names" s_l_names ["_law_box_here", "_law_many"]) :
    Kn P w K mg base CX0 "_law_names" 3 ["_law_box_here", "_law_many"] spNames := by
  obtain ⟨f, fd, F, hm, hb⟩ := D
  obtain ⟨f_l_take, fd_l_take, G_l_take, m_l_take, k_l_take, b_l_take⟩ := GT
  refine ⟨f, fd, F.ok sc_l_names (fun vs H Q E h => ?_) (fun cdv A outer s H vs Q E hr h => ?_), hm, F.kp, hb⟩
  · obtain ⟨b, g, c, n, rfl, _⟩ := h
    rfl
  · obtain ⟨b, g, c, n, rfl, B, hn, q⟩ := h
    refine ⟨_, (pss_cons (ps_set (i := 2) sc_l_names.nd rfl (Or.inr rfl) pe_str)
      (pss_cons (ps_set (i := 3) sc_l_names.nd rfl (Or.inr rfl) (pe_lst pa_nil))
      (pss_cons (ps_for PassesOwn.never rfl (pi_range1 rfl T.n_range (pa_cons (pv 1) pa_nil)) (pg_name (i := 4) sc_l_names.nd rfl (Or.inl rfl))
        (pss_cons (ps_set (i := 5) sc_l_names.nd rfl (Or.inl rfl) (pe_op op_add pe_int (pe_call G_l_take (hr.mono (by omega)) rfl m_l_take k_l_take b_l_take .nil pass0 (pa_cons (pv 0) (pa_cons (pe_ix ix_list (pe_lst (pa_cons pe_int (pa_cons pe_int (pa_cons pe_int pa_nil)))) (pe_call G_l_take (hr.mono (by omega)) rfl m_l_take k_l_take b_l_take .nil pass0 (pa_cons (pv 0) (pa_cons pe_int pa_nil))) (fun _ _ => rfl)) pa_nil)))))
      (C8.pss_cut (ps_set (i := 6) sc_l_names.nd rfl (Or.inl rfl) (pe_bm PySem.F.plainAttrs_str PySem.F.slot_str_join PySem.F.type_str_join mt_join pe_str (pa_cons (pe_lc (own := [("_law_j", 7)]) rfl sc_l_names.nd (pi_range1 rfl T.n_range (pa_cons (pv 5) pa_nil)) (blkOk_by (N := ["_law_box_here", "_law_many", "_law_letters", "_law_found", "_law_k", "_law_size", "_law_name", "_law_j", "_law_one"]) (sc := defScope s_l_names) (by decide +kernel)) (fun _ _ _ _ _ => (pg_name (i := 7) sc_l_names.nd rfl (Or.inl rfl))) (fun _ _ _ _ _ => pts_nil) (fun _ _ _ _ _ => (pe_ix ix_str (pv 2) (pe_call G_l_take (hr.mono (by omega)) rfl m_l_take k_l_take b_l_take .nil pass0 (pa_cons (pv 0) (pa_cons pe_int pa_nil))) (fun _ _ => rfl)))) pa_nil)))
      (C8.pss_cut (ps_if (pt_cmpR op_in_seq (pv 6) (pe_op op_cat (pv 3) (pe_lst (pa_cons pe_str (pa_cons pe_str pa_nil)))) (by rfl)) (pss_one (ps_set (i := 6) sc_l_names.nd rfl (Or.inl rfl) (pe_ix ix_list (pe_lc (own := [("_law_one", 8)]) rfl sc_l_names.nd (pi_str (pv 2)) (blkOk_by (N := ["_law_box_here", "_law_many", "_law_letters", "_law_found", "_law_k", "_law_size", "_law_name", "_law_j", "_law_one"]) (sc := defScope s_l_names) (by decide +kernel)) (fun _ _ _ _ _ => (pg_name (i := 8) sc_l_names.nd rfl (Or.inl rfl))) (fun _ _ _ _ _ => (pts_one (pt_cmpR (op_notInK (K := K) rfl) (pv 8) (pv 3) (by rfl)))) (fun _ _ _ _ _ => (pv 8))) pe_int (fun _ _ => rfl)))) pss_nil)
      (pss_one (ps_expr (pe_bm PySem.F.plainAttrs_list PySem.F.slot_list_append PySem.F.type_list_append mt_append (pv 3) (pa_cons (pv 6) pa_nil))))))))
      (pss_one (ps_ret (pv 3)))))), ?_⟩
    refine ⟨(by show 0 ≤ sizeLine; decide), fun D hD => ?_⟩
    obtain ⟨db, dg, dc⟩ := B.ne hD
    have B0 := B.same (same_new hD (.lst []))
    refine ⟨_, rfl, 6, rfl, by decide, by decide, ?_⟩
    refine for_range (lo := 0) (n := 6) (fun i σ H' => ∃ (ns : List Str) (x4 x5 x6 x7 x8 : Option V), σ = [some (.ref b), some (.int 6), some (.str "abcdefghijklmnopqrstuvwxyz"), some (.ref D), x4, x5, x6, x7, x8] ∧ ns.length = i ∧ ns.Nodup ∧ (∀ x ∈ ns, nameL x.cps.toList = true) ∧ H' D = some (.lst (ns.map V.str)) ∧ Box H' b g c (n + 11 * i) ∧ But b g H H')
      ⟨[], _, _, _, _, _, rfl, rfl, List.nodup_nil, (fun x hx => by cases hx), upd_same, B0, But.of (same_new hD _)⟩ ?_ ?_
    · rintro i σ H1 hi ⟨ns, x4, x5, x6, x7, x8, rfl, hl, nd, nm, hDl, B1, bt1⟩
      refine ⟨_, rfl, ?_⟩
      refine ⟨(by show 3 ≤ sizeLine; decide), fun p3 np3 => ⟨_, rfl, b, g, c, _, 3, rfl, B1.same (same_new np3 _), (by omega), (by decide), (by decide), fun r3 H3 r03 r13 B3 bt3 => ?_⟩⟩
      have hp3 := But.new B1 np3 bt3
      have bu3 := But.after np3 bt3
      obtain ⟨v3, hv3, hat3⟩ := at_pick hp3 r03 r13 rfl
      refine ⟨p3, _, r3, v3, rfl, rfl, SqL.of hp3, hat3, ?_⟩
      have hw : ∃ y : Int, v3 = .int y ∧ 0 < y ∧ y ≤ 8 := by
        simp only [List.mem_cons, List.not_mem_nil, or_false] at hv3
        rcases hv3 with e | e | e
        · exact ⟨_, e, by decide, by decide⟩
        · exact ⟨_, e, by decide, by decide⟩
        · exact ⟨_, e, by decide, by decide⟩
      obtain ⟨y, rfl, y0, y1⟩ := hw
      refine ⟨b, g, c, _, y, rfl, B3, by omega, y0, pow8000' y 4 (by decide) (by show y.natAbs < 16; omega), fun r H4 r0 r1 B4 b4 => ?_⟩
      refine ⟨_, _, rfl, rfl, ?_⟩
      have bt4 : But b g H1 H4 := bu3.trans b4
      have p62 : (2 : Int) ^ 62 = 4611686018427387904 := by decide
      refine ⟨fun σ H' => ∃ (cs : List Nat) (z7 z8 : Option V), σ = [some (.ref b), some (.int 6), some (.str "abcdefghijklmnopqrstuvwxyz"), some (.ref D), some (.int (0 + (i : Int))), some (.int (1 + r)), some (tx cs), z7, z8] ∧ cs ≠ [] ∧ cs.length < 9 ∧ cs.all az = true ∧ Box H' b g c (n + 11 * i + 11) ∧ But b g H1 H', ?_, ?_⟩
      · refine ⟨rfl, _, rfl, 1 + r, rfl, by omega, by omega, fun D5 hD5 => ?_⟩
        obtain ⟨eb, eg, ec⟩ := B4.ne hD5
        refine lc_range (lo := 0) (n := (1 + r).toNat) (fun j H' => ∃ cs : List Nat, cs.length = j ∧ cs.all az = true ∧ H' D5 = some (.lst (onesL cs)) ∧ Box H' b g c (n + 11 * i + 2 + j) ∧ But b g H4 H') ⟨[], rfl, rfl, upd_same, (B4.same (same_new hD5 _)).mono (by omega), But.of (same_new hD5 _)⟩ ?_ ?_
        · rintro j H5 hj ⟨cs, lc, ca, hDl5, B5, b5⟩
          refine ⟨rfl, _, rfl, _, rfl, b, g, c, _, 26, rfl, B5, by omega, by decide, pow8000' 26 5 (by decide) (by decide), fun x H6 x0 x1 B6 b6 => ?_⟩
          obtain ⟨ch, hcm, hch⟩ := atI_some (xs := (Str.ofString "abcdefghijklmnopqrstuvwxyz").cps.toList) x0 (by rw [show (Str.ofString "abcdefghijklmnopqrstuvwxyz").cps.toList.length = 26 by decide +kernel]; exact x1)
          have hD6 := b6 D5 _ hDl5 eb eg
          refine ⟨_, _, ch, rfl, rfl, fitN (by decide +kernel), hch, _, hD6, ?_, cs ++ [ch], by rw [List.length_append, lc]; rfl, ?_, ?_, B6.off eb eg ec, ?_⟩
          · unfold onesL
            rw [List.length_map, List.length_map, List.length_map]
            exact small1000 (by omega)
          · rw [List.all_append, ca, Bool.true_and, List.all_cons, List.all_nil, Bool.and_true]
            exact (show ∀ c ∈ (Str.ofString "abcdefghijklmnopqrstuvwxyz").cps.toList, az c = true by decide +kernel) ch hcm
          · rw [upd_same, ← onesL_snoc]
          · intro a o h h1 h2
            rw [upd_ne (ne_of_none h hD5)]
            exact (b5.trans b6) a o h h1 h2
        · rintro H5 ⟨cs, lc, ca, hDl5, B5, b5⟩
          have hlen : (((cs.map fun c => [c]).map SX.S).map (·.length)).sum + ((cs.map fun c => [c]).map SX.S).length * (Str.ofString "").length ≤ 16777216 := by
            rw [SX.lens, ← List.length_flatten, flat_ones, show (Str.ofString "").length = 0 by decide +kernel, Nat.mul_zero, Nat.add_zero]
            omega
          refine ⟨_, D5, _, rfl, rfl, .inl (SqL.of hDl5), hlen, cs, x7, x8, ?_, ?_, by omega, ca, B5.mono (by omega), bt4.trans b5⟩
          · rw [join_ones]
            rfl
          · intro z
            rw [z] at lc
            have : ([] : List Nat).length = 0 := rfl
            omega
      rintro σ H5 ⟨cs, z7, z8, rfl, c0, c9, ca, B5, b5⟩
      have hD5 := b5 D _ hDl db dg
      refine ⟨fun σ H' => ∃ (x : Str) (z7 z8 : Option V), σ = [some (.ref b), some (.int 6), some (.str "abcdefghijklmnopqrstuvwxyz"), some (.ref D), some (.int (0 + (i : Int))), some (.int (1 + r)), some (.str x), z7, z8] ∧ nameL x.cps.toList = true ∧ x ∉ ns ∧ Same H5 H', ?_, ?_⟩
      · refine ⟨_, rfl, _, rfl, (by show 2 ≤ sizeLine; decide), fun p np => ?_⟩
        have s1 := same_new np (.lst [V.str "sum", V.str "average"])
        refine ⟨D, p, _, _, rfl, rfl, s1 _ _ hD5, upd_same, (by rw [List.length_map]; show ns.length + 2 ≤ sizeLine; exact Nat.le_of_lt (small1000 (by omega))), fun p2 np2 => ?_⟩
        have s2 := s1.trans (same_new np2 (.lst (ns.map V.str ++ [V.str "sum", V.str "average"])))
        refine ⟨p2, (ns ++ [Str.ofString "sum", Str.ofString "average"]).map V.str, rfl, .inl (SqL.of (by rw [upd_same, List.map_append]; rfl)), rfl, flat_strs _, _, rfl, ?_⟩
        have hin := inV_strs (SX.S cs) (ns ++ [Str.ofString "sum", Str.ofString "average"])
        refine ite2 (fun k => ?_) (fun k => ?_)
        · have hD6 := s2 _ _ hD5
          refine ⟨_, rfl, SX.S lts, congrArg V.str letters_S, fun D6 hD6n => ?_⟩
          refine lc_str (l := lts) (fun i H' => Same (upd (upd H5 p (.lst [V.str "sum", V.str "average"])) p2 (.lst (ns.map V.str ++ [V.str "sum", V.str "average"]))) H' ∧ H' D6 = some (.lst (((lts.take i).filter fun c => decide (SX.S [c] ∉ ns)).map fun c => tx [c]))) ⟨same_new hD6n _, upd_same⟩ ?_ ?_
          · rintro i ch H7 hch ⟨s7, hacc⟩
            have hD7 := s7 _ _ hD6
            have hnot := inV_strs (SX.S [ch]) ns
            refine ⟨rfl, _, rfl, _, rfl, D, _, rfl, .inl (SqL.of hD7), rfl, flat_strs ns, _, rfl, ?_⟩
            have eb : (!inV (V.str (SX.S [ch])) (ns.map V.str)) = decide (SX.S [ch] ∉ ns) := by rw [hnot, decide_not]
            refine ite2 (fun m => ?_) (fun m => ?_)
            · have m2 := eb.symm.trans m
              refine ⟨_, rfl, _, hacc, ?_, same_upd s7 hD6n, ?_⟩
              · rw [List.length_map]
                refine Nat.lt_of_le_of_lt (List.length_filter_le _ _) ?_
                rw [List.length_take]
                exact small1000 (Nat.le_trans (Nat.min_le_right _ _) (by decide))
              · rw [upd_same, take_more hch, List.filter_append, List.filter_cons_of_pos (by exact m2), List.filter_nil, List.map_append]
                rfl
            · have m2 := eb.symm.trans (Bool.eq_false_iff.mpr m)
              refine ⟨s7, ?_⟩
              rw [take_more hch, List.filter_append, List.filter_cons_of_neg (by rw [m2]; exact Bool.false_ne_true), List.filter_nil, List.append_nil]
              exact hacc
          · rintro H7 ⟨s7, hacc⟩
            rw [List.take_length] at hacc
            obtain ⟨c1, hc1, hc2⟩ := free_letter (ns := ns) (by omega)
            obtain ⟨d, rest, hfl⟩ : ∃ d rest, lts.filter (fun c => decide (SX.S [c] ∉ ns)) = d :: rest := by
              cases hf : lts.filter (fun c => decide (SX.S [c] ∉ ns)) with
              | nil =>
                have : c1 ∈ lts.filter (fun c => decide (SX.S [c] ∉ ns)) := List.mem_filter.mpr ⟨hc1, decide_eq_true hc2⟩
                rw [hf] at this
                cases this
              | cons d rest => exact ⟨d, rest, rfl⟩
            have hdm : d ∈ lts ∧ decide (SX.S [d] ∉ ns) = true := List.mem_filter.mp (by rw [hfl]; exact List.mem_cons_self ..)
            rw [hfl] at hacc
            refine ⟨D6, _, _, tx [d], rfl, rfl, SqL.of hacc, at_of (j := 0) rfl rfl, SX.S [d], _, _, rfl, ?_, of_decide_eq_true hdm.2, s2.trans s7⟩
            rw [show (SX.S [d]).cps.toList = [d] by simp [SX.S]]
            exact one_name hdm.1
        · have k2 := of_decide_eq_false (hin.symm.trans (Bool.eq_false_iff.mpr k))
          refine ⟨SX.S cs, _, _, rfl, ?_, fun z => k2 (List.mem_append_left _ z), s2⟩
          rw [show (SX.S cs).cps.toList = cs by simp [SX.S]]
          have n1 : cs ≠ [115, 117, 109] := fun z => k2 (List.mem_append_right _ (by rw [z]; exact List.mem_cons.mpr (.inl (by decide +kernel))))
          have n2 : cs ≠ [97, 118, 101, 114, 97, 103, 101] := fun z => k2 (List.mem_append_right _ (by rw [z]; exact List.mem_cons_of_mem _ (List.mem_cons.mpr (.inl (by decide +kernel)))))
          unfold nameL
          rw [decide_eq_true c0, decide_eq_true c9, ca, decide_eq_true n1, decide_eq_true n2]
          rfl
      rintro σ H6 ⟨x, z7, z8, rfl, nx, xin, s56⟩
      have hD6 := s56 _ _ hD5
      have B6 := B5.same s56
      refine ⟨_, rfl, .inl ⟨rfl, _, SqL.of hD6⟩, _, rfl, D, _, _, rfl, rfl, hD6, (by rw [List.length_map]; exact small1000 (by omega)), ns ++ [x], _, _, _, _, _, rfl, by rw [List.length_append, hl]; rfl, ?_, ?_, ?_, (B6.off db dg dc).mono (by omega), ?_⟩
      · rw [List.nodup_append]
        refine ⟨nd, List.pairwise_singleton _ _, fun u hu v hv e => ?_⟩
        rw [List.mem_singleton.mp hv] at e
        exact xin (by rw [← e]; exact hu)
      · intro u hu
        rcases List.mem_append.mp hu with hu | hu
        · exact nm u hu
        · rw [List.mem_singleton.mp hu]
          exact nx
      · rw [upd_same, List.map_append]
        rfl
      · intro a o h h1 h2
        rw [upd_ne (ne_of_none h hD)]
        exact s56 _ _ (b5 _ _ (bt1 a o h h1 h2) h1 h2)
    · rintro σ H1 ⟨ns, x4, x5, x6, x7, x8, rfl, hl, nd, nm, hDl, B1, bt1⟩
      refine ⟨_, rfl, ?_⟩
      exact q D ns H1 hl nd nm hDl hD (B1.mono (by omega)) bt1
end

theorem peK_bm {X : Cx} {K : PySem.W.Frag} {e : Expr} {T : String} {r : V → List V → Hp → VK → Prop} {to : TE} {t : TA} (h : X.K = K) (p : PE X e (tBM X.K T r to t)) : PE X e (tBM K T r to t) := by
  subst h
  exact p
theorem eraseMap : ∀ (l : List Str) (k : Nat), (l.map V.str).eraseIdx k = (l.eraseIdx k).map V.str
  | [], k => by simp
  | x :: l, 0 => by simp
  | x :: l, k + 1 => by simp [eraseMap l k]
def spShuf : Sp := fun vs H Q _ => ∃ (b g c t : Addr) (n : Nat) (ns : List Str), vs = [.ref b, .ref t] ∧ Box H b g c n ∧ n + 20 < 1000000 ∧ H t = some (.lst (ns.map V.str)) ∧ ns.length ≤ 6 ∧
  ∀ (D : Addr) (ys : List Str) (H' : Hp), ys.Perm ns → H' D = some (.lst (ys.map V.str)) → H D = none → Box H' b g c (n + 6) → But b g H H' → Q (.ref D) H'
theorem call_lenK {X : Cx} {K : PySem.W.Frag} (h : X.K = K) : CallR X (.builtin "len") (fun xs H Q => ∃ p ys, xs = [.ref p] ∧ (SqL K H p ys ∨ SqT K H p ys) ∧ Q (.int (ys.length : Nat)) H) := by
  subst h
  exact call_len_seq
theorem ixSeq {n : Nat} {r : Nat} (h : r < n) : seqIndex? (r : Int) n = some r := by
  have e : ixN n (r : Int) = some r := by
    unfold ixN
    rw [if_pos (by omega), if_pos (by omega)]
    congr 1
  exact (ixN_seq e).1
section
variable {P : Program} {w : World} {K : PySem.W.Frag} {mg : Str → Option Value} {base : Heap}
theorem ok_shuffled (T : Bt mg) (GT : Kn P w K mg base CX0 "_law_take" 2 ["_law_box_here", "_law_size"] spTake) (D : Df K mg "_law_shuffled" s_l_shuffled ["_law_box_here", "_law_things"]) :
    Kn P w K mg base CX0 "_law_shuffled" 3 ["_law_box_here", "_law_things"] spShuf := by
  obtain ⟨f, fd, F, hm, hb⟩ := D
  obtain ⟨f_l_take, fd_l_take, G_l_take, m_l_take, k_l_take, b_l_take⟩ := GT
  refine ⟨f, fd, F.ok sc_l_shuffled (fun vs H Q E h => ?_) (fun cdv A outer s H vs Q E hr h => ?_), hm, F.kp, hb⟩
  · obtain ⟨b, g, c, t, n, ns, rfl, _⟩ := h
    rfl
  · obtain ⟨b, g, c, t, n, ns, rfl, B, hn, ht, hl, q⟩ := h
    refine ⟨_, (pss_cons (ps_set (i := 2) sc_l_shuffled.nd rfl (Or.inr rfl) (pe_callTy call_list_of (by rfl) T.n_list (by decide +kernel) (pa_cons (pv 1) pa_nil)))
      (pss_one (ps_ret (pe_lc (own := [("_law_k", 3)]) rfl sc_l_shuffled.nd (pi_range1 rfl T.n_range (pa_cons (pe_callB (call_lenK (K := K) rfl) (by rfl) T.n_len (by decide +kernel) (pa_cons (pv 2) pa_nil)) pa_nil)) (blkOk_by (N := ["_law_box_here", "_law_things", "_law_pile", "_law_k"]) (sc := defScope s_l_shuffled) (by decide +kernel)) (fun _ _ _ _ _ => (pg_name (i := 3) sc_l_shuffled.nd rfl (Or.inl rfl))) (fun _ _ _ _ _ => pts_nil) (fun _ _ _ _ _ => (peK_bm (K := K) rfl (pe_bm PySem.F.plainAttrs_list PySem.F.slot_list_pop PySem.F.type_list_pop mt_popAt (pv 2) (pa_cons (pe_call G_l_take (hr.mono (by omega)) rfl m_l_take k_l_take b_l_take .nil pass0 (pa_cons (pv 0) (pa_cons (pe_callB (call_lenK (K := K) rfl) (by rfl) T.n_len (by decide +kernel) (pa_cons (pv 2) pa_nil)) pa_nil))) pa_nil)))))))), ?_⟩
    have p62 : (2 : Int) ^ 62 = 4611686018427387904 := by decide
    refine ⟨_, rfl, t, _, rfl, .inl (SqL.of ht), fun L hL => ?_⟩
    have s1 := same_new hL (.lst (ns.map V.str))
    have B1 := B.same s1
    obtain ⟨lb, lg, lc⟩ := B.ne hL
    refine ⟨_, rfl, L, _, rfl, .inl (SqL.of upd_same), (ns.length : Int), by rw [List.length_map], by omega, by omega, fun D hD => ?_⟩
    have hLD : D ≠ L := fun e => by
      rw [e] at hD
      rw [upd_same] at hD
      cases hD
    obtain ⟨eb, eg, ec⟩ := B1.ne hD
    have nD : H D = none := by
      rw [upd_ne hLD] at hD
      exact hD
    refine lc_range (lo := 0) (n := ((ns.length : Int)).toNat) (fun j H' => ∃ done left : List Str, done.length = j ∧ (done ++ left).Perm ns ∧ H' D = some (.lst (done.map V.str)) ∧ H' L = some (.lst (left.map V.str)) ∧ Box H' b g c (n + j) ∧ But b g H H') ⟨[], ns, rfl, List.Perm.refl _, upd_same, by rw [upd_ne hLD.symm]; exact upd_same, B1.off eb eg ec, ?_⟩ ?_ ?_
    · intro a o h _ _
      rw [upd_ne (ne_of_none h nD), upd_ne (ne_of_none h hL)]
      exact h
    · rintro j H2 hj ⟨done, left, ld, pm, hDd, hLl, B2, b2⟩
      have ll : left.length = ns.length - j := by
        have z := pm.length_eq
        rw [List.length_append, ld] at z
        omega
      have hjn : j < ns.length := by omega
      have lm : ((left.map V.str).length : Int) = (left.length : Int) := by rw [List.length_map]
      refine ⟨rfl, _, rfl, .inl ⟨rfl, _, SqL.of hLl⟩, _, rfl, _, rfl, L, _, rfl, .inl (SqL.of hLl), b, g, c, _, ((left.map V.str).length : Int), rfl, B2, by omega, by omega, pow8000' _ 4 (by decide) (by rw [lm]; show ((left.length : Nat) : Int).natAbs < 16; omega), fun r H3 r0 r1 B3 b3 => ?_⟩
      obtain ⟨k, rfl⟩ : ∃ k : Nat, r = (k : Int) := ⟨r.toNat, by omega⟩
      have hk : k < left.length := by omega
      have hL3 := b3 L _ hLl lb lg
      have hD3 := b3 D _ hDd eb eg
      have p63 : (2 : Int) ^ 63 = 9223372036854775808 := by decide
      refine ⟨L, _, (k : Int), k, .str left[k], rfl, rfl, hL3, by omega, by omega, by rw [List.length_map]; exact ixSeq hk, by rw [List.getElem?_map, List.getElem?_eq_getElem hk]; rfl, ?_⟩
      refine ⟨_, by rw [upd_ne hLD]; exact hD3, by rw [List.length_map]; exact small1000 (by omega), done ++ [left[k]], left.eraseIdx k, by rw [List.length_append, ld]; rfl, ?_, ?_, ?_, ?_, ?_⟩
      · refine List.Perm.trans ?_ pm
        rw [List.append_assoc]
        exact List.Perm.append_left done (erase_perm left k left[k] (List.getElem?_eq_getElem hk))
      · rw [upd_same, List.map_append]
        rfl
      · rw [upd_ne hLD.symm, upd_same]
        exact congrArg (fun z => some (HO.lst z)) (eraseMap left k)
      · exact (B3.off lb lg lc).off eb eg ec
      · intro a o h h1 h2
        rw [upd_ne (ne_of_none h nD), upd_ne (ne_of_none h hL)]
        exact b3 a o (b2 a o h h1 h2) h1 h2
    · rintro H2 ⟨done, left, ld, pm, hDd, hLl, B2, b2⟩
      have ll : left = [] := by
        have z := pm.length_eq
        rw [List.length_append, ld] at z
        exact List.length_eq_zero_iff.mp (by omega)
      rw [ll, List.append_nil] at pm
      exact q D done H2 pm hDd nD (B2.mono (by omega)) b2
end

/-- a heap without the thing at D -/
def hide (D : Addr) (H : Hp) : Hp := fun a => if a = D then none else H a
theorem hide_sub (D : Addr) (H : Hp) : Same (hide D H) H := fun a o h => by
  unfold hide at h
  split at h
  · cases h
  · exact h
theorem hide_at {D a : Addr} {H : Hp} {o : HO} (h : H a = some o) (n : a ≠ D) : hide D H a = some o := by
  unfold hide
  rw [if_neg n]
  exact h
theorem hide_upd (D : Addr) (H : Hp) (o : HO) : hide D (upd H D o) = hide D H := funext fun a => by
  unfold hide
  by_cases h : a = D
  · rw [if_pos h, if_pos h]
  · rw [if_neg h, if_neg h, upd_ne h]
theorem hide_same {D : Addr} {H H' : Hp} (s : Same H H') (h : H D = none) : Same H (hide D H') := fun a o e => hide_at (s a o e) (fun z => by rw [z, h] at e; cases e)
theorem hide_mono {D : Addr} {H H' : Hp} (s : Same H H') : Same (hide D H) (hide D H') := fun a o e => by
  unfold hide at e
  split at e
  · cases e
  · rename_i n
    exact hide_at (s a o e) n
theorem dps_snoc {K : PySem.W.Frag} {H : Hp} : ∀ {vs : List V} {ds : List PyData} {v : V} {d : PyData}, DpAll K H vs ds → Dp K H v d → DpAll K H (vs ++ [v]) (ds ++ [d])
  | _, _, _, _, .nil, h => .cons h .nil
  | _, _, _, _, .cons a t, h => .cons a (dps_snoc t h)
def spFormF (K : PySem.W.Frag) : Sp := fun vs H Q _ => ∃ (d : Addr) (vc : V) (kvs : List (Key × V)) (ks : List Str) (zf : Str → Int × Int) (c : Int × Int), vs = [.ref d, vc] ∧ H d = some (.dK kvs) ∧ kvs.map (·.1) = ks.map Sum.inr ∧ ks.length ≤ 6 ∧
  (∀ k ∈ ks, ∃ v, valV kvs (Sum.inr k) = some v ∧ Dp K H v (numD (zf k))) ∧ Dp K H vc (numD c) ∧
  ∀ (r : V) (ys : List Str) (H' : Hp), Same H H' → ys.Perm ks → PyProof.Rows.sortedS ys = true → Dp K H' r (formN ((ys.filter fun k => decide ((zf k).1 ≠ 0)).map fun k => (k, zf k)) c) → Q r H'
section
variable {P : Program} {w : World} {K : PySem.W.Frag} {mg : Str → Option Value} {base : Heap}
theorem ok_lform (T : Bt mg) (Tt : Ut4 K mg) (D : Df K mg "_law_form" s_l_form ["_law_terms", "_law_constant"]) : Kn P w K mg base CX0 "_law_form" 1 ["_law_terms", "_law_constant"] (spFormF K) := by
  obtain ⟨f, fd, F, hm, hb⟩ := D
  refine ⟨f, fd, F.ok sc_l_form (fun vs H Q E h => ?_) (fun cdv A outer s H vs Q E hr h => ?_), hm, F.kp, hb⟩
  · obtain ⟨d, vc, kvs, ks, zf, c, rfl, _⟩ := h
    rfl
  · obtain ⟨d, vc, kvs, ks, zf, c, rfl, hd, hks, hl, hval, hc, q⟩ := h
    refine ⟨_, (pss_cons (ps_setLc (i := 2) (own := [("_law_name", 3)]) rfl sc_l_form.nd rfl rfl (sw_true rfl rfl rfl (by decide +kernel)) (pi_list (pe_callB (call_sortedD (by rfl)) (by rfl) Tt.n_sorted (by decide +kernel) (pa_cons (pv 0) pa_nil))) (blkOk_by (N := ["_law_terms", "_law_constant", "_law_some", "_law_name"]) (sc := defScope s_l_form) (by decide +kernel)) (fun _ _ _ _ _ => (pg_name (i := 3) sc_l_form.nd rfl (Or.inl rfl))) (fun _ _ _ _ _ => (pts_one (pt_cmpR op_ne (pe_ix (ix_tupK (K := K) rfl) (pe_dget (Nat.lt_of_le_of_lt (Nat.add_le_add_left (by decide) _) hr.units) (pv 0) (pv 3) (fun _ _ => rfl)) pe_int (fun _ _ => rfl)) pe_int (nomark _)))) (fun _ _ _ _ _ => (pe_tup (pa_cons (pv 3) (pa_cons (pe_dget (Nat.lt_of_le_of_lt (Nat.add_le_add_left (by decide) _) hr.units) (pv 0) (pv 3) (fun _ _ => rfl)) pa_nil)))))
      (pss_one (ps_ret (pe_tup (pa_cons (pe_callTy call_tuple_of (by rfl) T.n_tuple (by decide +kernel) (pa_cons (pv 2) pa_nil)) (pa_cons (pv 1) pa_nil)))))), ?_⟩
    refine ⟨_, rfl, d, kvs, ks, rfl, .inl hd, hks, by omega, fun ys p pm so np => ?_⟩
    have s1 := same_new np (.lst (ys.map V.str))
    have hd1 := s1 _ _ hd
    refine ⟨p, rfl, ⟨_, SqL.of upd_same⟩, fun D hD => ?_⟩
    have nD : H D = none := s1.free hD
    refine lc_list (K := K) (a := p) (xs := ys.map V.str) (fun i H' => Same (upd H p (.lst (ys.map V.str))) H' ∧ ∃ rs : List V, rs.length ≤ i ∧ H' D = some (.lst rs) ∧ DpAll K (hide D H') rs (((ys.take i).filter fun k => decide ((zf k).1 ≠ 0)).map fun k => termN k (zf k))) ⟨same_new hD _, [], Nat.le_refl _, upd_same, .nil⟩ (fun i H' _ h => SqL.of (h.1 _ _ upd_same)) ?_ ?_
    · rintro i x H2 hx ⟨s2, rs, lr, hrs, hall⟩
      rw [List.getElem?_map] at hx
      obtain ⟨y, hy, rfl⟩ : ∃ y, ys[i]? = some y ∧ V.str y = x := by
        cases z : ys[i]? with
        | none => rw [z] at hx; cases hx
        | some y => rw [z] at hx; exact ⟨y, rfl, Option.some.inj hx⟩
      have hlt := get_lt hy
      have ly : ys.length ≤ 6 := by rw [pm.length_eq]; exact hl
      obtain ⟨v, hv, hvd⟩ := hval y (pm.mem_iff.mp (List.mem_of_getElem? hy))
      have s12 := s1.trans s2
      have hd2 := s12 _ _ hd
      have hvd2 := dp_same s12 _ _ hvd
      obtain ⟨pr, rfl, hpr⟩ := dp_rat_inv hvd2
      have dg : ∀ H', Same H2 H' → DGet H' d (.str y) (some (.ref pr)) := fun H' sx => .inl ⟨kvs, Sum.inr y, .inl (sx _ _ hd2), rfl, hv.symm⟩
      refine ⟨rfl, _, rfl, _, rfl, d, .ref pr, rfl, dg _ (Same.refl _), pr, _, _, .int (zf y).1, rfl, rfl, hpr, rfl, rfl, _, rfl, ?_⟩
      have eb : (!decide (V.int (zf y).1 = V.int 0)) = decide ((zf y).1 ≠ 0) := by
        rw [Bool.eq_iff_iff, Bool.not_eq_true', decide_eq_false_iff_not, decide_eq_true_eq]
        exact ⟨fun h e => h (by rw [e]), fun h e => h (by injection e)⟩
      refine ite2 (fun k => ?_) (fun k => ?_)
      · have k2 := eb.symm.trans k
        refine ⟨_, rfl, _, rfl, _, rfl, d, .ref pr, rfl, dg _ (Same.refl _), (by show 2 ≤ sizeLine; decide), fun p8 np8 => ?_⟩
        have s8 := same_new np8 (.tup [.str y, .ref pr])
        refine ⟨rs, s8 _ _ hrs, small1000 (by omega), same_upd (s2.trans s8) hD, rs ++ [.ref p8], by rw [List.length_append]; show rs.length + 1 ≤ i + 1; omega, upd_same, ?_⟩
        rw [take_more hy, List.filter_append, List.filter_cons_of_pos (by exact k2), List.filter_nil, List.map_append, hide_upd]
        refine dps_snoc (dps_same (hide_mono s8) _ _ hall) (.tup (SqT.of (hide_at upd_same fun e => ?_)) (.cons (.str y) (.cons ?_ .nil)))
        · rw [e, hrs] at np8
          cases np8
        · exact dp_same (hide_same (s1.trans (s2.trans s8)) nD) _ _ hvd
      · have k2 := eb.symm.trans (Bool.eq_false_iff.mpr k)
        refine ⟨s2, rs, by omega, hrs, ?_⟩
        rw [take_more hy, List.filter_append, List.filter_cons_of_neg (by rw [k2]; exact Bool.false_ne_true), List.filter_nil, List.append_nil]
        exact hall
    · rintro H2 ⟨s2, rs, lr, hrs, hall⟩
      have ll : (ys.map V.str).length = ys.length := List.length_map _
      rw [ll, List.take_length] at hall
      have s12 := s1.trans s2
      refine ⟨_, rfl, D, rs, rfl, .inl ⟨SqL.of hrs, fun p3 np3 => ?_⟩⟩
      have s3 := same_new np3 (.tup rs)
      refine ⟨_, rfl, (by show 2 ≤ sizeLine; decide), fun p4 np4 => ?_⟩
      have s4 := same_new np4 (.tup [.ref p3, vc])
      refine q _ ys _ (s12.trans (s3.trans s4)) pm so (.tup (SqT.of upd_same) (.cons (.tup (SqT.of (s4 _ _ upd_same)) ?_) (.cons (dp_same (s12.trans (s3.trans s4)) _ _ hc) .nil)))
      rw [List.map_map]
      exact dps_same ((hide_sub D H2).trans (s3.trans s4)) _ _ hall
/-- what is known of a drawn form -/
structure GoodF (ts : List (Str × (Int × Int))) (c : Int × Int) : Prop where
  terms : ∀ t ∈ ts, nameL t.1.cps.toList = true ∧ Red t.2 ∧ t.2.1 ≠ 0 ∧ Sz 700 t.2
  order : inOrder (ts.map (·.1)) = true
  const : Red c ∧ Sz 700 c
  few : ts.length ≤ 6
theorem cut_texts (ys : List Str) (lo hi : Option Int) : ∃ ms : List Str, cutV (ys.map V.str) lo hi = ms.map V.str ∧ ms.Sublist ys := by
  unfold cutV
  rw [← List.map_drop, ← List.map_take]
  exact ⟨_, rfl, (List.take_sublist _ _).trans (List.drop_sublist _ _)⟩
mutual
def noList : PyData → Bool
  | .list _ => false
  | .tuple ds => noLists ds
  | _ => true
def noLists : List PyData → Bool
  | [] => true
  | d :: ds => noList d && noLists ds
end
mutual
theorem dp_mk {K : PySem.W.Frag} {H : Hp} {b g c : Addr} {n : Nat} (B : Box H b g c n) : ∀ (d : PyData) (v : V), noList d = true → Dp K H v d → Dp K (mk b g H) v d
  | .none, _, _, h => by cases h; exact .non
  | .bool b, _, _, h => by cases h; exact .bl b
  | .int i, _, _, h => by cases h; exact .int i
  | .str x, _, _, h => by cases h; exact .str x
  | .list _, _, n, _ => by cases n
  | .tuple ds, _, n, h => by
    cases h with
    | tup hs ha =>
      refine .tup ?_ (dps_mk B ds _ n ha)
      rcases hs with (h | ⟨o, h⟩) | h
      · exact .inl (.inl (mk_tup B h))
      · refine .inl (.inr ⟨o, ?_⟩)
        obtain ⟨gs, cs, cur, m, B, _⟩ := B
        unfold mk
        rw [if_neg]
        · exact h
        · rintro (z | z)
          · rw [z, B.hb] at h
            cases h
          · rw [z, B.hg] at h
            cases h
      · exact .inr h
  | .dict _, _, _, h => by cases h
theorem dps_mk {K : PySem.W.Frag} {H : Hp} {b g c : Addr} {n : Nat} (B : Box H b g c n) : ∀ (ds : List PyData) (vs : List V), noLists ds = true → DpAll K H vs ds → DpAll K (mk b g H) vs ds
  | [], _, _, h => by cases h; exact .nil
  | d :: ds, _, n, h => by
    have z := Bool.and_eq_true_iff.mp (show (noList d && noLists ds) = true from n)
    cases h with
    | cons h1 h2 => exact .cons (dp_mk B d _ z.1 h1) (dps_mk B ds _ z.2 h2)
end
theorem noList_formN (ts : List (Str × (Int × Int))) (c : Int × Int) : noList (formN ts c) = true := by
  have key : ∀ ts : List (Str × (Int × Int)), noLists (ts.map fun t => termN t.1 t.2) = true := by
    intro ts
    induction ts with
    | nil => rfl
    | cons t ts ih => show (true && noLists _) = true; rw [ih]; rfl
  show (noLists (ts.map fun t => termN t.1 t.2) && (true && true)) = true
  rw [key ts]
  rfl
def spDrawnF (K : PySem.W.Frag) : Sp := fun vs H Q _ => ∃ (b g c t : Addr) (n : Nat) (ns : List Str), vs = [.ref b, .ref t] ∧ Box H b g c n ∧ n + 100 < 1000000 ∧ H t = some (.lst (ns.map V.str)) ∧ t ≠ b ∧ t ≠ g ∧ ns.length ≤ 6 ∧ ns.Nodup ∧ (∀ x ∈ ns, nameL x.cps.toList = true) ∧
  ∀ (r : V) (ts : List (Str × (Int × Int))) (z : Int × Int) (H' : Hp), GoodF ts z → Dp K (mk b g H') r (formN ts z) → Box H' b g c (n + 60) → But b g H H' → Q r H'
theorem valV_end {kvs : List (Key × V)} {k : Key} {v : V} (h : valV kvs k = none) : ∀ j, valV (kvs ++ [(k, v)]) j = if j = k then some v else valV kvs j := by
  intro j
  unfold valV at h ⊢
  rw [List.find?_append]
  by_cases e : j = k
  · subst e
    rw [if_pos rfl]
    cases hf : kvs.find? (fun kv => decide (kv.1 = j)) with
    | none => simp
    | some x => rw [hf] at h; cases h
  · rw [if_neg e]
    cases hf : kvs.find? (fun kv => decide (kv.1 = j)) with
    | none => simp [Ne.symm e]
    | some x => simp
theorem valV_keys {kvs : List (Key × V)} {ks : List Str} (h : kvs.map (·.1) = ks.map Sum.inr) {y : Str} (n : y ∉ ks) : valV kvs (Sum.inr y) = none := by
  unfold valV
  have : kvs.find? (fun kv => decide (kv.1 = Sum.inr y)) = none := by
    rw [List.find?_eq_none]
    intro kv hkv
    rw [decide_eq_true_eq]
    intro e
    have m : kv.1 ∈ ks.map Sum.inr := by rw [← h]; exact List.mem_map.mpr ⟨kv, hkv, rfl⟩
    rw [e] at m
    obtain ⟨x, hx, ex⟩ := List.mem_map.mp m
    injection ex with ex
    exact n (by rw [← ex]; exact hx)
  rw [this]
  rfl
section
variable {P : Program} {w : World} {K : PySem.W.Frag} {mg : Str → Option Value} {base : Heap}
theorem ok_drawn (T : Bt mg) (GT : Kn P w K mg base CX0 "_law_take" 2 ["_law_box_here", "_law_size"] spTake) (GS : Kn P w K mg base CX0 "_law_shuffled" 3 ["_law_box_here", "_law_things"] spShuf) (GN : Kn P w K mg base CX0 "_law_number" 3 ["_law_box_here"] (spNum 6))
    (GF : Kn P w K mg base CX0 "_law_form" 1 ["_law_terms", "_law_constant"] (spFormF K)) (D : Df K mg "_law_drawn_form" s_l_drawn_form ["_law_box_here", "_law_names_here"]) :
    Kn P w K mg base CX0 "_law_drawn_form" 4 ["_law_box_here", "_law_names_here"] (spDrawnF K) := by
  obtain ⟨f, fd, F, hm, hb⟩ := D
  obtain ⟨f_l_take, fd_l_take, G_l_take, m_l_take, k_l_take, b_l_take⟩ := GT
  obtain ⟨f_l_shuffled, fd_l_shuffled, G_l_shuffled, m_l_shuffled, k_l_shuffled, b_l_shuffled⟩ := GS
  obtain ⟨f_l_number, fd_l_number, G_l_number, m_l_number, k_l_number, b_l_number⟩ := GN
  obtain ⟨f_l_form, fd_l_form, G_l_form, m_l_form, k_l_form, b_l_form⟩ := GF
  refine ⟨f, fd, F.ok sc_l_drawn_form (fun vs H Q E h => ?_) (fun cdv A outer s H vs Q E hr h => ?_), hm, F.kp, hb⟩
  · obtain ⟨b, g, c, t, n, ns, rfl, _⟩ := h
    rfl
  · obtain ⟨b, g, c, t, n, ns, rfl, B, hn, ht, tb, tg, hl, nd, nm, q⟩ := h
    refine ⟨_, (pss_cons (ps_set (i := 2) sc_l_drawn_form.nd rfl (Or.inl rfl) pe_dnewK)
      (pss_cons (ps_for PassesOwn.never rfl (pi_list (pe_slice sl_list (pe_call G_l_shuffled (hr.mono (by omega)) rfl m_l_shuffled k_l_shuffled b_l_shuffled .nil pass0 (pa_cons (pv 0) (pa_cons (pv 1) pa_nil))) po_none (po_some (pe_call G_l_take (hr.mono (by omega)) rfl m_l_take k_l_take b_l_take .nil pass0 (pa_cons (pv 0) (pa_cons (pe_op op_add (pe_callB call_len_seq (by rfl) T.n_len (by decide +kernel) (pa_cons (pv 1) pa_nil)) pe_int) pa_nil)))))) (pg_name (i := 3) sc_l_drawn_form.nd rfl (Or.inl rfl))
        (pss_one (ps_asg (pe_call G_l_number (hr.mono (by omega)) rfl m_l_number k_l_number b_l_number .nil pass0 (pa_cons (pv 0) pa_nil)) (pg_sub (pv 2) (pv 3) (set_dict (Nat.lt_of_le_of_lt (Nat.add_le_add_left (by decide) _) hr.units))))))
      (pss_one (ps_ret (pe_call G_l_form (hr.mono (by omega)) rfl m_l_form k_l_form b_l_form .nil pass0 (pa_cons (pv 2) (pa_cons (pe_ix ix_list (pe_lst (pa_cons (pe_call G_l_number (hr.mono (by omega)) rfl m_l_number k_l_number b_l_number .nil pass0 (pa_cons (pv 0) pa_nil)) (pa_cons (pe_tup (pa_cons pe_int (pa_cons pe_int pa_nil))) pa_nil))) (pe_call G_l_take (hr.mono (by omega)) rfl m_l_take k_l_take b_l_take .nil pass0 (pa_cons (pv 0) (pa_cons pe_int pa_nil))) (fun _ _ => rfl)) pa_nil))))))), ?_⟩
    intro d hd
    have s0 := same_new hd (.dK [])
    have B0 := B.same s0
    obtain ⟨db, dg, dc⟩ := B.ne hd
    refine ⟨_, rfl, _, rfl, b, g, c, t, _, ns, rfl, B0, by omega, s0 _ _ ht, hl, fun L ys H1 pm hL nL B1 b1 => ?_⟩
    have ht1 := b1 t _ (s0 _ _ ht) tb tg
    have hd1 := b1 d _ upd_same db dg
    refine ⟨_, rfl, _, rfl, t, _, rfl, .inl (SqL.of ht1), _, _, rfl, rfl, b, g, c, _, ((ns.map V.str).length : Int) + 1, rfl, B1, by omega, by omega, pow8000' _ 4 (by decide) (by rw [List.length_map]; show ((ns.length : Int) + 1).natAbs < 16; omega), fun r H2 r0 r1 B2 b2 => ?_⟩
    obtain ⟨lb, lg, _⟩ := B0.ne nL
    have hL2 := b2 L _ hL lb lg
    have hd2 := b2 d _ hd1 db dg
    have bt2 : But b g H H2 := ((But.of s0).trans b1).trans b2
    refine ⟨_, rfl, L, _, rfl, SqL.of hL2, fun p np => ?_⟩
    obtain ⟨ms, hms, sub⟩ := cut_texts ys none (some r)
    rw [hms]
    have s3 := same_new np (.lst (ms.map V.str))
    obtain ⟨pb, pg, _⟩ := B2.ne np
    have pd : p ≠ d := fun e => by rw [e, hd2] at np; cases np
    have nd2 : ms.Nodup := sub.nodup (pm.nodup_iff.mpr nd)
    have lm : ms.length ≤ 6 := Nat.le_trans sub.length_le (by rw [pm.length_eq]; exact hl)
    have mem2 : ∀ x ∈ ms, x ∈ ns := fun x hx => pm.mem_iff.mp (sub.subset hx)
    refine ⟨p, rfl, ⟨_, SqL.of upd_same⟩, ?_⟩
    refine for_list (K := K) (a := p) (xs := ms.map V.str) (fun i σ H' => ∃ (kvs : List (Key × V)) (zf : Str → Int × Int) (x3 : Option V), σ = [some (.ref b), some (.ref t), some (.ref d), x3] ∧ H' d = some (.dK kvs) ∧ H' p = some (.lst (ms.map V.str)) ∧ kvs.map (·.1) = (ms.take i).map Sum.inr ∧
      (∀ k ∈ ms.take i, (Red (zf k) ∧ Sz 700 (zf k)) ∧ ∃ v, valV kvs (Sum.inr k) = some v ∧ Dp K (hide d (mk b g H')) v (numD (zf k))) ∧ Box H' b g c (n + 8 + 6 * i) ∧ But b g H H')
      ⟨[], fun _ => (0, 1), none, rfl, s3 _ _ hd2, upd_same, rfl, (fun k hk => by cases hk), (B2.same s3).mono (by omega), bt2.trans (But.of s3)⟩ (fun i σ H' _ h => by obtain ⟨_, _, _, _, _, h, _⟩ := h; exact SqL.of h) ?_ ?_
    · rintro i x σ H3 hx ⟨kvs, zf, x3, rfl, hd3, hp3, hks, hval, B3, bt3⟩
      rw [List.getElem?_map] at hx
      obtain ⟨y, hy, rfl⟩ : ∃ y, ms[i]? = some y ∧ V.str y = x := by
        cases z : ms[i]? with
        | none => rw [z] at hx; cases hx
        | some y => rw [z] at hx; exact ⟨y, rfl, Option.some.inj hx⟩
      have hlt := get_lt hy
      have fresh : y ∉ ms.take i := fun m => by
        have e : ms = ms.take (i + 1) ++ ms.drop (i + 1) := (List.take_append_drop _ _).symm
        rw [e, take_more hy] at nd2
        have z := (List.nodup_append.mp (List.nodup_append.mp nd2).1).2.2
        exact z y m y (List.mem_singleton.mpr rfl) rfl
      have vn := valV_keys hks fresh
      refine ⟨_, rfl, b, g, c, _, rfl, B3, by omega, fun pz z H4 rz sz hpz B4 b4 => ?_⟩
      have hd4 := b4 d _ hd3 db dg
      have hp4 := b4 p _ hp3 pb pg
      have lk : kvs.length ≤ 6 := by
        have e := congrArg List.length hks
        rw [List.length_map, List.length_map, List.length_take] at e
        omega
      have pzd : pz ≠ d := fun e => by rw [e, hd4] at hpz; cases hpz
      refine ⟨_, rfl, _, rfl, d, _, rfl, .inl ⟨kvs, Sum.inr y, hd4, rfl, small1000 (by omega), rfl⟩, ?_⟩
      rw [putK_new _ vn]
      refine ⟨kvs ++ [(Sum.inr y, .ref pz)], fun k => if k = y then z else zf k, some (.str y), rfl, upd_same, by rw [upd_ne pd]; exact hp4, ?_, ?_, (B4.off db dg dc).mono (by omega), ?_⟩
      · rw [List.map_append, hks, take_more hy, List.map_append]
        rfl
      · have eh : hide d (mk b g (upd H4 d (.dK (kvs ++ [(Sum.inr y, .ref pz)])))) = hide d (mk b g H4) := funext fun a => by
          unfold hide mk
          by_cases e : a = d
          · rw [if_pos e, if_pos e]
          · rw [if_neg e, if_neg e, upd_ne e]
        rw [eh]
        intro k hk
        rw [take_more hy] at hk
        dsimp only
        by_cases e : k = y
        · subst e
          refine ⟨by rw [if_pos rfl]; exact ⟨rz, sz⟩, .ref pz, by rw [valV_end vn, if_pos rfl], ?_⟩
          rw [if_pos rfl]
          exact dp_rat (hide_at (mk_tup B4 hpz) pzd)
        · rcases List.mem_append.mp hk with hk | hk
          · obtain ⟨r1, v, hv, hvd⟩ := hval k hk
            refine ⟨by rw [if_neg e]; exact r1, v, by rw [valV_end vn, if_neg (fun z => e (by injection z))]; exact hv, ?_⟩
            rw [if_neg e]
            exact dp_same (hide_mono (mk_but b4)) _ _ hvd
          · exact absurd (List.mem_singleton.mp hk) e
      · intro a o h h1 h2
        rw [upd_ne (ne_of_none h hd)]
        exact (bt3.trans b4) a o h h1 h2
    · rintro σ H3 ⟨kvs, zf, x3, rfl, hd3, hp3, hks, hval, B3, bt3⟩
      have ll : (ms.map V.str).length = ms.length := List.length_map _
      rw [ll, List.take_length] at hks hval
      refine ⟨_, rfl, _, rfl, b, g, c, _, rfl, B3, by omega, fun pz z H4 rz sz hpz B4 b4 => ⟨(by show 2 ≤ sizeLine; decide), fun p5 np5 => ?_⟩⟩
      have s5 := same_new np5 (.tup [.int 0, .int 1])
      have B5 := B4.same s5
      refine ⟨(by show 2 ≤ sizeLine; decide), fun p6 np6 => ⟨_, rfl, b, g, c, _, 2, rfl, B5.same (same_new np6 _), (by omega), (by decide), (by decide), fun r6 H6 r06 r16 B6 bt6 => ?_⟩⟩
      have hp6 := But.new B5 np6 bt6
      have bu6 := But.after np6 bt6
      obtain ⟨v6, hv6, hat6⟩ := at_pick hp6 r06 r16 rfl
      refine ⟨p6, _, r6, v6, rfl, rfl, SqL.of hp6, hat6, ?_⟩
      have bt36 : But b g H3 H6 := (b4.trans (But.of s5)).trans bu6
      have hcz : ∃ cz : Int × Int, (Red cz ∧ Sz 700 cz) ∧ Dp K H6 v6 (numD cz) := by
        simp only [List.mem_cons, List.not_mem_nil, or_false] at hv6
        rcases hv6 with e | e
        · exact ⟨z, ⟨rz, sz⟩, by rw [e]; exact dp_rat (bu6.tup B5 (s5 _ _ hpz))⟩
        · exact ⟨(0, 1), ⟨red_one 0, sz_of (k := 5) ⟨by decide, by decide⟩ (by decide)⟩, by rw [e]; exact dp_rat (bu6.tup B5 upd_same)⟩
      obtain ⟨cz, rcz, hcz⟩ := hcz
      have hd6 := bt36 d _ hd3 db dg
      refine ⟨d, v6, kvs, ms, zf, cz, rfl, hd6, hks, lm, fun k hk => ?_, hcz, fun r2 ys2 H7 s7 pm2 so hr2 => ?_⟩
      · obtain ⟨_, v, hv, hvd⟩ := hval k hk
        exact ⟨v, hv, dp_same ((hide_sub d _).trans (mk_sub b g H6)) _ _ (dp_same (hide_mono (mk_but bt36)) _ _ hvd)⟩
      · have B7 := B6.same s7
        have nd7 : ys2.Nodup := pm2.nodup_iff.mpr nd2
        refine q r2 _ cz H7 ⟨?_, ?_, rcz, ?_⟩ (dp_mk B7 _ _ (noList_formN _ _) hr2) (B7.mono (by omega)) ((bt3.trans bt36).trans (But.of s7))
        · intro t ht
          obtain ⟨k, hk, rfl⟩ := List.mem_map.mp ht
          obtain ⟨hk1, hk2⟩ := List.mem_filter.mp hk
          have hkm := pm2.mem_iff.mp hk1
          exact ⟨nm k (mem2 k hkm), (hval k hkm).1.1, of_decide_eq_true hk2, (hval k hkm).1.2⟩
        · rw [List.map_map]
          have e : ((fun t : Str × (Int × Int) => t.1) ∘ fun k => (k, zf k)) = id := rfl
          rw [e, List.map_id]
          unfold inOrder
          rw [Bool.and_eq_true, decide_eq_true_eq]
          refine ⟨(List.filter_sublist).nodup nd7, PyProof.Rows.sortedS_of_pairwise _ ?_⟩
          refine List.Pairwise.imp ?_ ((sorted_pw so).sublist List.filter_sublist)
          intro x y hxy
          rw [PyProof.Rows.ltCps_eq]
          exact decide_eq_false hxy
        · rw [List.length_map]
          exact Nat.le_trans (List.length_filter_le _ _) (by rw [pm2.length_eq]; exact lm)
end
end

mutual
/-- integers below 2 ^ k in size -/
def smallI (k : Nat) : PyData → Bool
  | .int i => decide (i.natAbs < 2 ^ k)
  | .list ds => smallIs k ds
  | .tuple ds => smallIs k ds
  | _ => true
def smallIs (k : Nat) : List PyData → Bool
  | [] => true
  | d :: ds => smallI k d && smallIs k ds
end
/-- a value that draws leave alone, short, with small integers -/
def Okv (K : PySem.W.Frag) (b g : Addr) (H : Hp) (k : Nat) (v : V) (d : PyData) : Prop := Dp K (mk b g H) v d ∧ shortD d = true ∧ smallI k d = true
theorem mk_at {H : Hp} {a b g : Addr} {o : HO} (h : H a = some o) (n1 : a ≠ b) (n2 : a ≠ g) : mk b g H a = some o := by
  unfold mk
  rw [if_neg (fun z => z.elim n1 n2)]
  exact h
theorem Okv.draw {K : PySem.W.Frag} {b g : Addr} {H H' : Hp} {k : Nat} {v : V} {d : PyData} (x : Okv K b g H k v d) (bt : But b g H H') : Okv K b g H' k v d := ⟨dp_same (mk_but bt) _ _ x.1, x.2⟩
theorem short_pair {a b : PyData} (h1 : shortD a = true) (h2 : shortD b = true) : shortD (.tuple [a, b]) = true := by
  show (true && (shortD a && (shortD b && true))) = true
  rw [h1, h2]
  rfl
theorem small_pair {k : Nat} {a b : PyData} (h1 : smallI k a = true) (h2 : smallI k b = true) : smallI k (.tuple [a, b]) = true := by
  show (smallI k a && (smallI k b && true)) = true
  rw [h1, h2]
  rfl
theorem okv_pair {K : PySem.W.Frag} {b g c p : Addr} {H : Hp} {n k : Nat} {x y : V} {d e : PyData} (B : Box H b g c n) (hx : Okv K b g H k x d) (hy : Okv K b g H k y e) (np : H p = none) : Okv K b g (upd H p (.tup [x, y])) k (.ref p) (.tuple [d, e]) := by
  have m := mk_but (b := b) (g := g) (But.of (same_new np (.tup [x, y])))
  exact ⟨.tup (SqT.of (mk_new B np)) (.cons (dp_same m _ _ hx.1) (.cons (dp_same m _ _ hy.1) .nil)), short_pair hx.2.1 hy.2.1, small_pair hx.2.2 hy.2.2⟩
def spBentT (K : PySem.W.Frag) : Sp := fun vs H Q _ => ∃ (b g c : Addr) (n k : Nat) (v : V) (d0 : PyData) (z : Int × Int), vs = [.ref b, v] ∧ Box H b g c n ∧ n + 10 < 1000000 ∧ k ≤ 1000 ∧ 5 ≤ k ∧ Okv K b g H k v (.tuple [d0, numD z]) ∧
  ∀ (r : V) (d : PyData) (H' : Hp), Okv K b g H' (k + 1) r d → Box H' b g c (n + 5) → But b g H H' → Q r H'
mutual
theorem smallI_up {j k : Nat} (h : j ≤ k) : ∀ d : PyData, smallI j d = true → smallI k d = true
  | .int i, e => decide_eq_true (Nat.lt_of_lt_of_le (of_decide_eq_true e) (Nat.pow_le_pow_right (by decide) h))
  | .list ds, e => smallIs_up h ds e
  | .tuple ds, e => smallIs_up h ds e
  | .none, _ => rfl
  | .bool _, _ => rfl
  | .str _, _ => rfl
  | .dict _, _ => rfl
theorem smallIs_up {j k : Nat} (h : j ≤ k) : ∀ ds : List PyData, smallIs j ds = true → smallIs k ds = true
  | [], _ => rfl
  | d :: ds, e => by
    have z := Bool.and_eq_true_iff.mp (show (smallI j d && smallIs j ds) = true from e)
    exact Bool.and_eq_true_iff.mpr ⟨smallI_up h d z.1, smallIs_up h ds z.2⟩
end
section
variable {P : Program} {w : World} {K : PySem.W.Frag} {mg : Str → Option Value} {base : Heap}
theorem ok_bent_term (T : Bt mg) (GT : Kn P w K mg base CX0 "_law_take" 2 ["_law_box_here", "_law_size"] spTake) (D : Df K mg "_law_bent_term" s_l_bent_term ["_law_box_here", "_law_term"]) :
    Kn P w K mg base CX0 "_law_bent_term" 3 ["_law_box_here", "_law_term"] (spBentT K) := by
  obtain ⟨f, fd, F, hm, hb⟩ := D
  obtain ⟨f_l_take, fd_l_take, G_l_take, m_l_take, k_l_take, b_l_take⟩ := GT
  refine ⟨f, fd, F.ok sc_l_bent_term (fun vs H Q E h => ?_) (fun cdv A outer s H vs Q E hr h => ?_), hm, F.kp, hb⟩
  · obtain ⟨b, g, c, n, k, v, d0, z, rfl, _⟩ := h
    rfl
  · obtain ⟨b, g, c, n, k, v, d0, z, rfl, B, hn, hk, hk5, ⟨hd, hsh, hsm⟩, q⟩ := h
    refine ⟨_, (pss_cons (ps_set (i := 2) sc_l_bent_term.nd rfl (Or.inl rfl) (pe_lst (pa_cons pe_str (pa_cons pe_str (pa_cons pe_str (pa_cons pe_str (pa_cons pe_str (pa_cons pe_int (pa_cons pe_non (pa_cons (pe_tup (pa_cons pe_str pa_nil)) (pa_cons pe_str (pa_cons pe_str (pa_cons pe_str (pa_cons (pe_lst (pa_cons pe_str pa_nil)) pa_nil))))))))))))))
      (pss_cons (ps_set (i := 3) sc_l_bent_term.nd rfl (Or.inl rfl) (pe_lst (pa_cons (pe_tup (pa_cons pe_int (pa_cons pe_int pa_nil))) (pa_cons (pe_ix ix_tup (pe_ix ix_tup (pv 1) pe_int (fun _ _ => rfl)) pe_int (fun _ _ => rfl)) (pa_cons (pe_tup (pa_cons (pe_op op_mulW pe_int (pe_ix ix_tup (pe_ix ix_tup (pv 1) pe_int (fun _ _ => rfl)) pe_int (fun _ _ => rfl))) (pa_cons (pe_op op_mulW pe_int (pe_ix ix_tup (pe_ix ix_tup (pv 1) pe_int (fun _ _ => rfl)) pe_int (fun _ _ => rfl))) pa_nil))) (pa_cons (pe_tup (pa_cons (pe_ix ix_tup (pe_ix ix_tup (pv 1) pe_int (fun _ _ => rfl)) pe_int (fun _ _ => rfl)) (pa_cons pe_int pa_nil))) (pa_cons pe_bl (pa_cons (pe_callTy call_list_of (by rfl) T.n_list (by decide +kernel) (pa_cons (pe_ix ix_tup (pv 1) pe_int (fun _ _ => rfl)) pa_nil)) pa_nil))))))))
      (pss_cons (ps_set (i := 4) sc_l_bent_term.nd rfl (Or.inl rfl) (pe_call G_l_take (hr.mono (by omega)) rfl m_l_take k_l_take b_l_take .nil pass0 (pa_cons (pv 0) (pa_cons pe_int pa_nil))))
      (pss_cons (ps_if (pt_cmpR op_eq (pv 4) pe_int (nomark _)) (pss_one (ps_ret (pe_tup (pa_cons (pe_ix ix_list (pv 2) (pe_call G_l_take (hr.mono (by omega)) rfl m_l_take k_l_take b_l_take .nil pass0 (pa_cons (pv 0) (pa_cons pe_int pa_nil))) (fun _ _ => rfl)) (pa_cons (pe_ix ix_tup (pv 1) pe_int (fun _ _ => rfl)) pa_nil))))) pss_nil)
      (pss_cons (ps_if (pt_cmpR op_eq (pv 4) pe_int (nomark _)) (pss_one (ps_ret (pe_tup (pa_cons (pe_ix ix_tup (pv 1) pe_int (fun _ _ => rfl)) (pa_cons (pe_ix ix_list (pv 3) (pe_call G_l_take (hr.mono (by omega)) rfl m_l_take k_l_take b_l_take .nil pass0 (pa_cons (pv 0) (pa_cons pe_int pa_nil))) (fun _ _ => rfl)) pa_nil))))) pss_nil)
      (pss_one (ps_ret (pe_ix ix_list (pe_lst (pa_cons (pe_callTy call_list_of (by rfl) T.n_list (by decide +kernel) (pa_cons (pv 1) pa_nil)) (pa_cons (pe_slice sl_tupA (pv 1) po_none (po_some pe_int)) (pa_cons (pe_op op_catA (pv 1) (pe_tup (pa_cons pe_int pa_nil))) pa_nil)))) (pe_call G_l_take (hr.mono (by omega)) rfl m_l_take k_l_take b_l_take .nil pass0 (pa_cons (pv 0) (pa_cons pe_int pa_nil))) (fun _ _ => rfl))))))))), ?_⟩
    cases hd with
    | @tup a xs _ hsM ha =>
      cases ha with
      | @cons x1 _ _ _ h1 ha =>
        cases ha with
        | @cons x2 _ _ _ hx2 ha =>
          cases ha
          obtain ⟨pr, rfl, hprM⟩ := dp_rat_inv hx2
          have hs := same_seqT (mk_sub b g H) hsM
          have hpr := same_seqT (mk_sub b g H) hprM
          obtain ⟨sd0, szn⟩ : shortD d0 = true ∧ smallI k d0 = true := ⟨(short_tup hsh).2 d0 (List.mem_cons_self ..), (Bool.and_eq_true_iff.mp (show (smallI k d0 && (smallI k (numD z) && true)) = true from hsm)).1⟩
          have hz := (Bool.and_eq_true_iff.mp (show (smallI k d0 && (smallI k (numD z) && true)) = true from hsm)).2
          rw [Bool.and_true] at hz
          have hz2 := Bool.and_eq_true_iff.mp (show (smallI k (.int z.1) && (smallI k (.int z.2) && true)) = true from hz)
          have z1 : z.1.natAbs < 2 ^ k := of_decide_eq_true hz2.1
          have z2 : z.2.natAbs < 2 ^ k := of_decide_eq_true (by have := hz2.2; rw [Bool.and_true] at this; exact this)
          have cm : ∀ x : Int, x.natAbs < 2 ^ k → CMulW 2 x := fun x hx => wide_mul (a := 2) (b := k) (by decide) hx (by decide) (by omega) (by omega)
          -- the odd things
          refine ⟨(by show 1 ≤ sizeLine; decide), fun p1 np1 => ⟨(by show 1 ≤ sizeLine; decide), fun p2 np2 => ⟨(by show 12 ≤ sizeLine; decide), fun p3 np3 => ?_⟩⟩⟩
          have s1 := same_new np1 (.tup [V.str "a"])
          have s2 := same_new np2 (.lst [V.str "a"])
          generalize hO : ([V.str "A", V.str "sum", V.str "average", V.str "", V.str "abcdefghi", V.int 7, V.non, V.ref p1, V.str "a1", V.str "a b", V.str "a\n", V.ref p2] : List V) = odds at np3
          have s3 := same_new np3 (.lst odds)
          generalize hH3 : upd (upd (upd H p1 (.tup [V.str "a"])) p2 (.lst [V.str "a"])) p3 (.lst odds) = H3 at s3
          have s03 := s1.trans (s2.trans s3)
          have hs3 := same_seqT s03 hs
          have hpr3 := same_seqT s03 hpr
          have e1 : H3 p1 = some (.tup [V.str "a"]) := s3 _ _ (s2 _ _ upd_same)
          have e2 : H3 p2 = some (.lst [V.str "a"]) := s3 _ _ upd_same
          have e3 : H3 p3 = some (.lst odds) := by rw [← hH3, upd_same]
          have n1 := B.ne np1
          have n2 := (B.same s1).ne np2
          have n3 := (B.same (s1.trans s2)).ne np3
          have B3 := B.same s03
          -- the numbers
          refine ⟨(by show 2 ≤ sizeLine; decide), fun p4 np4 => ?_⟩
          have s4 := same_new np4 (.tup [V.int 0, V.int 1])
          refine ⟨_, rfl, a, _, _, .ref pr, rfl, rfl, same_seqT s4 hs3, rfl, pr, _, _, .int z.1, rfl, rfl, same_seqT s4 hpr3, rfl, ?_⟩
          refine ⟨_, rfl, a, _, _, .ref pr, rfl, rfl, same_seqT s4 hs3, rfl, pr, _, _, .int z.1, rfl, rfl, same_seqT s4 hpr3, rfl, _, _, rfl, rfl, cm _ z1, ?_⟩
          refine ⟨_, rfl, a, _, _, .ref pr, rfl, rfl, same_seqT s4 hs3, rfl, pr, _, _, .int z.2, rfl, rfl, same_seqT s4 hpr3, rfl, _, _, rfl, rfl, cm _ z2, (by show 2 ≤ sizeLine; decide), fun p5 np5 => ?_⟩
          have s5 := same_new np5 (.tup [V.int (2 * z.1), V.int (2 * z.2)])
          refine ⟨_, rfl, a, _, _, .ref pr, rfl, rfl, same_seqT (s4.trans s5) hs3, rfl, pr, _, _, .int z.1, rfl, rfl, same_seqT (s4.trans s5) hpr3, rfl, (by show 2 ≤ sizeLine; decide), fun p6 np6 => ?_⟩
          have s6 := same_new np6 (.tup [V.int z.1, V.int 0])
          have s46 := s4.trans (s5.trans s6)
          refine ⟨_, rfl, a, _, _, .ref pr, rfl, rfl, same_seqT s46 hs3, rfl, pr, _, rfl, .inr (same_seqT s46 hpr3), fun p7 np7 => ⟨(by show 6 ≤ sizeLine; decide), fun p8 np8 => ?_⟩⟩
          have s7 := same_new np7 (.lst [V.int z.1, V.int z.2])
          generalize hN : ([V.ref p4, V.int z.1, V.ref p5, V.ref p6, V.bl true, V.ref p7] : List V) = nums at np8
          have s8 := same_new np8 (.lst nums)
          have n4 := B3.ne np4
          have n5 := (B3.same s4).ne np5
          have n6 := (B3.same (s4.trans s5)).ne np6
          have n7 := (B3.same s46).ne np7
          have n8 := (B3.same (s46.trans s7)).ne np8
          generalize hH8 : upd (upd (upd (upd (upd H3 p4 (.tup [V.int 0, V.int 1])) p5 (.tup [V.int (2 * z.1), V.int (2 * z.2)])) p6 (.tup [V.int z.1, V.int 0])) p7 (.lst [V.int z.1, V.int z.2])) p8 (.lst nums) = H8 at s8
          have f4 : H8 p4 = some (.tup [V.int 0, V.int 1]) := s8 _ _ (s7 _ _ (s6 _ _ (s5 _ _ upd_same)))
          have f5 : H8 p5 = some (.tup [V.int (2 * z.1), V.int (2 * z.2)]) := s8 _ _ (s7 _ _ (s6 _ _ upd_same))
          have f6 : H8 p6 = some (.tup [V.int z.1, V.int 0]) := s8 _ _ (s7 _ _ upd_same)
          have f7 : H8 p7 = some (.lst [V.int z.1, V.int z.2]) := s8 _ _ upd_same
          have f8 : H8 p8 = some (.lst nums) := by rw [← hH8, upd_same]
          have s38 := s46.trans (s7.trans s8)
          have B8 := B3.same s38
          have M8 : Same (mk b g H) (mk b g H8) := mk_but (But.of (s03.trans s38))
          have up : ∀ x : Int, x.natAbs < 2 ^ k → decide (x.natAbs < 2 ^ (k + 1)) = true := fun x hx => decide_eq_true (Nat.lt_of_lt_of_le hx (Nat.pow_le_pow_right (by decide) (by omega)))
          have up2 : ∀ x : Int, x.natAbs < 2 ^ k → decide ((2 * x).natAbs < 2 ^ (k + 1)) = true := fun x hx => decide_eq_true (by rw [Int.natAbs_mul, Nat.pow_succ]; show 2 * x.natAbs < _; omega)
          have big : ∀ m : Nat, m < 32 → m < 2 ^ (k + 1) := fun m hm => Nat.lt_of_lt_of_le hm (show 2 ^ 5 ≤ 2 ^ (k + 1) from Nat.pow_le_pow_right (by decide) (by omega))
          have oddOk : ∀ v ∈ odds, ∃ d, Dp K (mk b g H8) v d ∧ shortD d = true ∧ smallI (k + 1) d = true := by
            intro v hv
            rw [← hO] at hv
            simp only [List.mem_cons, List.not_mem_nil, or_false] at hv
            rcases hv with e | e | e | e | e | e | e | e | e | e | e | e
            · exact ⟨.str (Str.ofString "A"), e ▸ .str _, by decide +kernel, rfl⟩
            · exact ⟨.str (Str.ofString "sum"), e ▸ .str _, by decide +kernel, rfl⟩
            · exact ⟨.str (Str.ofString "average"), e ▸ .str _, by decide +kernel, rfl⟩
            · exact ⟨.str (Str.ofString ""), e ▸ .str _, by decide +kernel, rfl⟩
            · exact ⟨.str (Str.ofString "abcdefghi"), e ▸ .str _, by decide +kernel, rfl⟩
            · exact ⟨.int 7, e ▸ .int _, rfl, decide_eq_true (big 7 (by decide))⟩
            · exact ⟨.none, e ▸ .non, rfl, rfl⟩
            · exact ⟨.tuple [.str (Str.ofString "a")], e ▸ .tup (SqT.of (mk_at (s38 _ _ e1) n1.1 n1.2.1)) (.cons (.str _) .nil), by decide +kernel, rfl⟩
            · exact ⟨.str (Str.ofString "a1"), e ▸ .str _, by decide +kernel, rfl⟩
            · exact ⟨.str (Str.ofString "a b"), e ▸ .str _, by decide +kernel, rfl⟩
            · exact ⟨.str (Str.ofString "a\n"), e ▸ .str _, by decide +kernel, rfl⟩
            · exact ⟨.list [.str (Str.ofString "a")], e ▸ .lst (SqL.of (mk_at (s38 _ _ e2) n2.1 n2.2.1)) (.cons (.str _) .nil), by decide +kernel, rfl⟩
          have two : ∀ x y : Int, decide (x.natAbs < 2 ^ (k + 1)) = true → decide (y.natAbs < 2 ^ (k + 1)) = true → (decide (x.natAbs < 2 ^ (k + 1)) && (decide (y.natAbs < 2 ^ (k + 1)) && true)) = true := fun x y h1 h2 => by rw [h1, h2]; rfl
          have numOk : ∀ v ∈ nums, ∃ d, Dp K (mk b g H8) v d ∧ shortD d = true ∧ smallI (k + 1) d = true := by
            intro v hv
            rw [← hN] at hv
            simp only [List.mem_cons, List.not_mem_nil, or_false] at hv
            rcases hv with e | e | e | e | e | e
            · exact ⟨.tuple [.int 0, .int 1], e ▸ .tup (SqT.of (mk_at f4 n4.1 n4.2.1)) (.cons (.int _) (.cons (.int _) .nil)), rfl, two 0 1 (decide_eq_true (big 0 (by decide))) (decide_eq_true (big 1 (by decide)))⟩
            · exact ⟨.int z.1, e ▸ .int _, rfl, up _ z1⟩
            · exact ⟨.tuple [.int (2 * z.1), .int (2 * z.2)], e ▸ .tup (SqT.of (mk_at f5 n5.1 n5.2.1)) (.cons (.int _) (.cons (.int _) .nil)), rfl, two _ _ (up2 _ z1) (up2 _ z2)⟩
            · exact ⟨.tuple [.int z.1, .int 0], e ▸ .tup (SqT.of (mk_at f6 n6.1 n6.2.1)) (.cons (.int _) (.cons (.int _) .nil)), rfl, two _ 0 (up _ z1) (decide_eq_true (big 0 (by decide)))⟩
            · exact ⟨.bool true, e ▸ .bl _, rfl, rfl⟩
            · exact ⟨.list [.int z.1, .int z.2], e ▸ .lst (SqL.of (mk_at f7 n7.1 n7.2.1)) (.cons (.int _) (.cons (.int _) .nil)), rfl, two _ _ (up _ z1) (up _ z2)⟩
          have smz : smallI (k + 1) (numD z) = true := smallI_up (Nat.le_succ k) _ hz
          have sm0 : smallI (k + 1) d0 = true := smallI_up (Nat.le_succ k) _ szn
          have lenO : odds.length = 12 := by rw [← hO]; rfl
          have lenN : nums.length = 6 := by rw [← hN]; rfl
          -- the way
          refine ⟨_, rfl, b, g, c, _, 4, rfl, B8, by omega, by decide, pow8000' 4 3 (by decide) (by decide), fun way H9 w0 w1 B9 b9 => ?_⟩
          refine ⟨_, rfl, rfl, _, rfl, ?_⟩
          refine ite2 (fun _ => ?_) (fun _ => ?_)
          · refine ⟨_, rfl, _, rfl, b, g, c, _, 12, rfl, B9, by omega, by decide, pow8000' 12 4 (by decide) (by decide), fun r H10 r0 r1 B10 b10 => ?_⟩
            have bt := b9.trans b10
            obtain ⟨v, hv, hat⟩ := at_lt (xs := odds) r0 (by rw [lenO]; exact r1)
            obtain ⟨d, o1, o2, o3⟩ := oddOk v hv
            have hsX : SqT K H10 a [x1, .ref pr] := same_seqT (mk_sub b g H10) (same_seqT (mk_but bt) (same_seqT M8 hsM))
            refine ⟨p3, _, r, v, rfl, rfl, SqL.of (bt p3 _ (s38 _ _ e3) n3.1 n3.2.1), hat, _, rfl, a, _, _, .ref pr, rfl, rfl, hsX, rfl, (by show 2 ≤ sizeLine; decide), fun p11 np11 => ?_⟩
            have k1 : Okv K b g H10 (k + 1) v d := Okv.draw ⟨o1, o2, o3⟩ bt
            have k2 : Okv K b g H10 (k + 1) (.ref pr) (numD z) := Okv.draw ⟨dp_same M8 _ _ hx2, rfl, smz⟩ bt
            exact q _ _ _ (okv_pair B10 k1 k2 np11) ((B10.same (same_new np11 _)).mono (by omega)) (((But.of (s03.trans s38)).trans bt).trans (But.of (same_new np11 _)))
          · refine ⟨_, rfl, rfl, _, rfl, ?_⟩
            refine ite2 (fun _ => ?_) (fun _ => ?_)
            · have hs9 : SqT K H9 a [x1, .ref pr] := same_seqT (mk_sub b g H9) (same_seqT (mk_but b9) (same_seqT M8 hsM))
              refine ⟨_, rfl, a, _, _, x1, rfl, rfl, hs9, rfl, _, rfl, _, rfl, b, g, c, _, 6, rfl, B9, by omega, by decide, pow8000' 6 4 (by decide) (by decide), fun r H10 r0 r1 B10 b10 => ?_⟩
              have bt := b9.trans b10
              obtain ⟨v, hv, hat⟩ := at_lt (xs := nums) r0 (by rw [lenN]; exact r1)
              obtain ⟨d, o1, o2, o3⟩ := numOk v hv
              refine ⟨p8, _, r, v, rfl, rfl, SqL.of (bt p8 _ f8 n8.1 n8.2.1), hat, (by show 2 ≤ sizeLine; decide), fun p11 np11 => ?_⟩
              have k1 : Okv K b g H10 (k + 1) v d := Okv.draw ⟨o1, o2, o3⟩ bt
              have k2 : Okv K b g H10 (k + 1) x1 d0 := Okv.draw ⟨dp_same M8 _ _ h1, sd0, sm0⟩ bt
              exact q _ _ _ (okv_pair B10 k2 k1 np11) ((B10.same (same_new np11 _)).mono (by omega)) (((But.of (s03.trans s38)).trans bt).trans (But.of (same_new np11 _)))
            · have hs9 : SqT K H9 a [x1, .ref pr] := same_seqT (mk_sub b g H9) (same_seqT (mk_but b9) (same_seqT M8 hsM))
              refine ⟨_, rfl, a, _, rfl, .inr hs9, fun q1 nq1 => ?_⟩
              have t1 := same_new nq1 (.lst [x1, .ref pr])
              refine ⟨_, rfl, _, rfl, a, _, rfl, same_seqT t1 hs9, (fun w => absurd w.2 (show ¬ HT.sIx 2 2 (some 1) = 2 by decide)), fun _ q2 nq2 => ?_⟩
              have t2 := same_new nq2 (.tup (cutV [x1, V.ref pr] none (some 1)))
              refine ⟨_, rfl, (by show 1 ≤ sizeLine; decide), fun q3 nq3 => ?_⟩
              have t3 := same_new nq3 (.tup [V.int 1])
              refine ⟨a, q3, _, _, rfl, rfl, same_seqT (t1.trans (t2.trans t3)) hs9, SqT.of upd_same, (by show 3 ≤ sizeLine; decide), (fun w => by cases w), (fun _ w => by cases w), fun _ _ q4 nq4 => ?_⟩
              have t4 := same_new nq4 (.tup ([x1, V.ref pr] ++ [V.int 1]))
              have Bq := B9.same (t1.trans (t2.trans (t3.trans t4)))
              have m1 := B9.ne nq1
              have m2 := (B9.same t1).ne nq2
              have m4 := (B9.same (t1.trans (t2.trans t3))).ne nq4
              have g1 := t4 _ _ (t3 _ _ (t2 _ _ (upd_same (H := H9) (a := q1) (o := .lst [x1, V.ref pr]))))
              have g2 := t4 _ _ (t3 _ _ (upd_same (H := upd H9 q1 (.lst [x1, V.ref pr])) (a := q2) (o := .tup (cutV [x1, V.ref pr] none (some 1)))))
              generalize hHq : upd (upd (upd (upd H9 q1 (.lst [x1, V.ref pr])) q2 (.tup (cutV [x1, V.ref pr] none (some 1)))) q3 (.tup [V.int 1])) q4 (.tup ([x1, V.ref pr] ++ [V.int 1])) = Hq at t4 Bq g1 g2
              have g4 : Hq q4 = some (.tup ([x1, V.ref pr] ++ [V.int 1])) := by rw [← hHq, upd_same]
              have t9 : Same (mk b g H) (mk b g Hq) := M8.trans ((mk_but b9).trans (mk_but (But.of (t1.trans (t2.trans (t3.trans t4))))))
              refine ⟨(by show 3 ≤ sizeLine; decide), fun p20 np20 => ⟨_, rfl, b, g, c, _, 3, rfl, Bq.same (same_new np20 _), (by omega), (by decide), (by decide), fun r20 H20 r020 r120 B20 bt20 => ?_⟩⟩
              have hp20 := But.new Bq np20 bt20
              have bu20 := But.after np20 bt20
              obtain ⟨v20, hv20, hat20⟩ := at_pick hp20 r020 r120 rfl
              refine ⟨p20, _, r20, v20, rfl, rfl, SqL.of hp20, hat20, ?_⟩
              have kx := dp_same (t9.trans (mk_but bu20)) _ _ h1
              have kz := dp_same (t9.trans (mk_but bu20)) _ _ hx2
              have fin : ∃ d, Okv K b g H20 (k + 1) v20 d := by
                simp only [List.mem_cons, List.not_mem_nil, or_false] at hv20
                have one : smallI (k + 1) (.int 1) = true := decide_eq_true (big 1 (by decide))
                rcases hv20 with e | e | e
                · refine ⟨.list [d0, numD z], e ▸ .lst (SqL.of (mk_but bu20 _ _ (mk_at g1 m1.1 m1.2.1))) (.cons kx (.cons kz .nil)), ?_, ?_⟩
                  · exact short_pair sd0 (b := numD z) rfl
                  · exact small_pair sm0 smz
                · refine ⟨.tuple [d0], e ▸ .tup (SqT.of (mk_but bu20 _ _ (mk_at g2 m2.1 m2.2.1))) (.cons kx .nil), ?_, ?_⟩
                  · show (true && (shortD d0 && true)) = true
                    rw [sd0]
                    rfl
                  · show (smallI (k + 1) d0 && true) = true
                    rw [sm0]
                    rfl
                · refine ⟨.tuple [d0, numD z, .int 1], e ▸ .tup (SqT.of (mk_but bu20 _ _ (mk_at g4 m4.1 m4.2.1))) (.cons kx (.cons kz (.cons (.int 1) .nil))), ?_, ?_⟩
                  · show (true && (shortD d0 && (true && (true && true)))) = true
                    rw [sd0]
                    rfl
                  · show (smallI (k + 1) d0 && (smallI (k + 1) (numD z) && (smallI (k + 1) (.int 1) && true))) = true
                    rw [sm0, smz, one]
                    rfl
              obtain ⟨d, hd⟩ := fin
              exact q _ _ _ hd (B20.mono (by omega)) ((((But.of (s03.trans s38)).trans b9).trans (But.of (t1.trans (t2.trans (t3.trans t4))))).trans bu20)
end

theorem short_of {ds : List PyData} (l : ds.length ≤ 60) (h : ∀ d ∈ ds, shortD d = true) : shortD (.tuple ds) = true ∧ shortD (.list ds) = true := by
  have key : ∀ ds : List PyData, (∀ d ∈ ds, shortD d = true) → shortDs ds = true := by
    intro ds
    induction ds with
    | nil => intro _; rfl
    | cons d ds ih => intro h; show (shortD d && shortDs ds) = true; rw [h d (List.mem_cons_self ..), ih fun e he => h e (List.mem_cons_of_mem _ he)]; rfl
  have z : (decide (ds.length ≤ 60) && shortDs ds) = true := by rw [decide_eq_true l, key ds h]; rfl
  exact ⟨z, z⟩
theorem small_all {k : Nat} : ∀ {ds : List PyData}, smallIs k ds = true ↔ ∀ d ∈ ds, smallI k d = true
  | [] => ⟨fun _ d h => (by cases h), fun _ => rfl⟩
  | d :: ds => by
    show (smallI k d && smallIs k ds) = true ↔ _
    rw [Bool.and_eq_true, small_all (ds := ds)]
    constructor
    · rintro ⟨h1, h2⟩ e he
      rcases List.mem_cons.mp he with rfl | he
      · exact h1
      · exact h2 e he
    · intro h
      exact ⟨h d (List.mem_cons_self ..), fun e he => h e (List.mem_cons_of_mem _ he)⟩
theorem dps_app {K : PySem.W.Frag} {H : Hp} : ∀ {xs ys : List V} {ds es : List PyData}, DpAll K H xs ds → DpAll K H ys es → DpAll K H (xs ++ ys) (ds ++ es)
  | _, _, _, _, .nil, h => h
  | _, _, _, _, .cons a t, h => .cons a (dps_app t h)
theorem dps_rev {K : PySem.W.Frag} {H : Hp} : ∀ {xs : List V} {ds : List PyData}, DpAll K H xs ds → DpAll K H xs.reverse ds.reverse
  | _, _, .nil => .nil
  | _, _, .cons a t => by
    rw [List.reverse_cons, List.reverse_cons]
    exact dps_app (dps_rev t) (.cons a .nil)
theorem Okv.keep {K : PySem.W.Frag} {b g : Addr} {H H' : Hp} {k : Nat} {v : V} {d : PyData} (x : Okv K b g H k v d) (s : Same H H') : Okv K b g H' k v d := x.draw (But.of s)
theorem okv_tup {K : PySem.W.Frag} {b g c p : Addr} {H : Hp} {n k : Nat} {xs : List V} {ds : List PyData} (B : Box H b g c n) (h : DpAll K (mk b g H) xs ds) (h1 : shortD (.tuple ds) = true) (h2 : smallI k (.tuple ds) = true) (np : H p = none) :
    Okv K b g (upd H p (.tup xs)) k (.ref p) (.tuple ds) := ⟨.tup (SqT.of (mk_new B np)) (dps_same (mk_but (But.of (same_new np (.tup xs)))) _ _ h), h1, h2⟩
theorem okv_lst {K : PySem.W.Frag} {b g c p : Addr} {H : Hp} {n k : Nat} {xs : List V} {ds : List PyData} (B : Box H b g c n) (h : DpAll K (mk b g H) xs ds) (h1 : shortD (.list ds) = true) (h2 : smallI k (.list ds) = true) (np : H p = none) :
    Okv K b g (upd H p (.lst xs)) k (.ref p) (.list ds) := ⟨.lst (SqL.of (mk_new B np)) (dps_same (mk_but (But.of (same_new np (.lst xs)))) _ _ h), h1, h2⟩
/-! ### tuples cut and joined, by their data -/
def cutD (ts : List PyData) (lo hi : Option Int) : List PyData := (ts.drop (HT.sIx ts.length 0 lo)).take (HT.sIx ts.length ts.length hi - HT.sIx ts.length 0 lo)
theorem dps_drop {K : PySem.W.Frag} {H : Hp} : ∀ (k : Nat) {xs : List V} {ds : List PyData}, DpAll K H xs ds → DpAll K H (xs.drop k) (ds.drop k)
  | 0, _, _, h => h
  | _ + 1, _, _, .nil => .nil
  | k + 1, _, _, .cons _ t => dps_drop k t
theorem dps_take {K : PySem.W.Frag} {H : Hp} : ∀ (k : Nat) {xs : List V} {ds : List PyData}, DpAll K H xs ds → DpAll K H (xs.take k) (ds.take k)
  | 0, _, _, _ => .nil
  | _ + 1, _, _, .nil => .nil
  | k + 1, _, _, .cons a t => .cons a (dps_take k t)
theorem dps_cut {K : PySem.W.Frag} {H : Hp} {xs : List V} {ds : List PyData} {lo hi : Option Int} (h : DpAll K H xs ds) : DpAll K H (cutV xs lo hi) (cutD ds lo hi) := by
  unfold cutV cutD
  rw [dps_len h]
  exact dps_take _ (dps_drop _ h)
theorem cutD_mem {ts : List PyData} {lo hi : Option Int} {d : PyData} (h : d ∈ cutD ts lo hi) : d ∈ ts := List.mem_of_mem_drop (List.mem_of_mem_take h)
theorem cutD_all {ts : List PyData} {lo hi : Option Int} (h : HT.sIx ts.length 0 lo = 0 ∧ HT.sIx ts.length ts.length hi = ts.length) : cutD ts lo hi = ts := by
  unfold cutD
  rw [h.1, h.2, List.drop_zero, Nat.sub_zero, List.take_length]
theorem slA_dp {K : PySem.W.Frag} {b g c a : Addr} {H : Hp} {n : Nat} {ts : List PyData} {lo hi : Option Int} {Q : VK} (B : Box H b g c n) (hd : Dp K (mk b g H) (.ref a) (.tuple ts))
    (q : ∀ r H', Same H H' → Dp K (mk b g H') (.ref r) (.tuple (cutD ts lo hi)) → Q (.ref r) H') : rSlA K (.ref a) lo hi H Q := by
  cases hd with
  | @tup _ xs _ hs ha =>
    have hl := dps_len ha
    refine ⟨a, xs, rfl, same_seqT (mk_sub b g H) hs, fun w => ?_, fun _ p np => ?_⟩
    · refine q a H (Same.refl H) ?_
      rw [cutD_all (by rw [← hl]; exact w)]
      exact .tup hs ha
    · exact q p _ (same_new np _) (.tup (SqT.of (mk_new B np)) (dps_same (mk_but (But.of (same_new np _))) _ _ (dps_cut ha)))
theorem catA_dp {K : PySem.W.Frag} {b g c a a2 : Addr} {H : Hp} {n : Nat} {ds es : List PyData} {Q : VK} (B : Box H b g c n) (hx : Dp K (mk b g H) (.ref a) (.tuple ds)) (hy : Dp K (mk b g H) (.ref a2) (.tuple es)) (hz : ds.length + es.length ≤ 1000)
    (q : ∀ r H', Same H H' → Dp K (mk b g H') (.ref r) (.tuple (ds ++ es)) → Q (.ref r) H') : rCatA K (.ref a) (.ref a2) H Q := by
  cases hx with
  | @tup _ xs _ hs ha =>
    cases hy with
    | @tup _ ys _ hs2 ha2 =>
      have hl := dps_len ha
      have hl2 := dps_len ha2
      refine ⟨a, a2, xs, ys, rfl, rfl, same_seqT (mk_sub b g H) hs, same_seqT (mk_sub b g H) hs2, Nat.le_of_lt (small1000 (by omega)), fun e => ?_, fun _ e => ?_, fun _ _ p np => ?_⟩
      · have e2 : ds = [] := List.length_eq_zero_iff.mp (by rw [← hl, e]; rfl)
        subst e2
        exact q a2 H (Same.refl H) (.tup hs2 ha2)
      · have e2 : es = [] := List.length_eq_zero_iff.mp (by rw [← hl2, e]; rfl)
        subst e2
        refine q a H (Same.refl H) ?_
        rw [List.append_nil]
        exact .tup hs ha
      · exact q p _ (same_new np _) (.tup (SqT.of (mk_new B np)) (dps_same (mk_but (But.of (same_new np _))) _ _ (dps_app ha ha2)))
theorem cut_len1 {ts : List PyData} {j : Nat} : (cutD ts (some (j : Int)) (some ((j : Int) + 1))).length ≤ 1 := by
  unfold cutD
  rw [List.length_take, List.length_drop, HT.sIx_nat, show ((j : Int) + 1) = ((j + 1 : Nat) : Int) by omega, HT.sIx_nat]
  omega
theorem cut_to {ts : List PyData} {j : Nat} (h : j ≤ ts.length) : cutD ts none (some (j : Int)) = ts.take j := by
  unfold cutD
  rw [HT.sIx_nat, HT.sIx_none, List.drop_zero, Nat.min_eq_left h, Nat.sub_zero]
theorem cut_from {ts : List PyData} {j : Nat} (h : j < ts.length) : cutD ts (some ((j : Int) + 1)) none = ts.drop (j + 1) := by
  unfold cutD
  rw [show ((j : Int) + 1) = ((j + 1 : Nat) : Int) by omega, HT.sIx_nat, HT.sIx_none, Nat.min_eq_left h]
  exact List.take_of_length_le (by rw [List.length_drop]; exact Nat.le_refl _)
theorem dp_up {K : PySem.W.Frag} {b g : Addr} {H H' : Hp} {v : V} {d : PyData} (h : Dp K (mk b g H) v d) (s : Same H H') : Dp K (mk b g H') v d := dp_same (mk_but (But.of s)) _ _ h
theorem dp_dr {K : PySem.W.Frag} {b g : Addr} {H H' : Hp} {v : V} {d : PyData} (h : Dp K (mk b g H) v d) (s : But b g H H') : Dp K (mk b g H') v d := dp_same (mk_but s) _ _ h
theorem dp_newT {K : PySem.W.Frag} {b g c p : Addr} {H : Hp} {n : Nat} {xs : List V} {ds : List PyData} (B : Box H b g c n) (h : DpAll K (mk b g H) xs ds) (np : H p = none) : Dp K (mk b g (upd H p (.tup xs))) (.ref p) (.tuple ds) :=
  .tup (SqT.of (mk_new B np)) (dps_same (mk_but (But.of (same_new np (.tup xs)))) _ _ h)
theorem dp_newL {K : PySem.W.Frag} {b g c p : Addr} {H : Hp} {n : Nat} {xs : List V} {ds : List PyData} (B : Box H b g c n) (h : DpAll K (mk b g H) xs ds) (np : H p = none) : Dp K (mk b g (upd H p (.lst xs))) (.ref p) (.list ds) :=
  .lst (SqL.of (mk_new B np)) (dps_same (mk_but (But.of (same_new np (.lst xs)))) _ _ h)
theorem small_tup {k : Nat} {ds : List PyData} (h : ∀ d ∈ ds, smallI k d = true) : smallI k (.tuple ds) = true ∧ smallI k (.list ds) = true := ⟨small_all.mpr h, small_all.mpr h⟩

def topLen : PyData → Nat
  | .tuple [.tuple ts, _] => ts.length
  | _ => 0
def innLen : PyData → Nat
  | .tuple [.tuple (.tuple es :: _), _] => es.length
  | _ => 0
def spBentF (K : PySem.W.Frag) : Sp := fun vs H Q _ => ∃ (b g c : Addr) (n k : Nat) (v : V) (d : PyData), vs = [.ref b, v] ∧ Box H b g c n ∧ n + 30 < 1000000 ∧ k ≤ 1000 ∧ 5 ≤ k ∧ Okv K b g H k v d ∧ topLen d ≤ 20 ∧
  ∀ (r : V) (d' : PyData) (H' : Hp), Okv K b g H' (k + 1) r d' → (topLen d ≤ 19 → innLen d ≤ 20 → topLen d' ≤ 20) → Box H' b g c (n + 20) → But b g H H' → Q r H'
section
variable {P : Program} {w : World} {K : PySem.W.Frag} {mg : Str → Option Value} {base : Heap}
theorem ok_bent_form (T : Bt mg) (GT : Kn P w K mg base CX0 "_law_take" 2 ["_law_box_here", "_law_size"] spTake) (GI : Kn P w K mg base CX0 "_law_is_ratio" 2 ["_law_value"] (spD K isRat)) (GB : Kn P w K mg base CX0 "_law_bent_term" 3 ["_law_box_here", "_law_term"] (spBentT K))
    (D : Df K mg "_law_bent_form" s_l_bent_form ["_law_box_here", "_law_form_here"]) : Kn P w K mg base CX0 "_law_bent_form" 4 ["_law_box_here", "_law_form_here"] (spBentF K) := by
  obtain ⟨f, fd, F, hm, hb⟩ := D
  obtain ⟨f_l_take, fd_l_take, G_l_take, m_l_take, k_l_take, b_l_take⟩ := GT
  obtain ⟨f_l_is_ratio, fd_l_is_ratio, G_l_is_ratio, m_l_is_ratio, k_l_is_ratio, b_l_is_ratio⟩ := GI
  obtain ⟨f_l_bent_term, fd_l_bent_term, G_l_bent_term, m_l_bent_term, k_l_bent_term, b_l_bent_term⟩ := GB
  refine ⟨f, fd, F.ok sc_l_bent_form (fun vs H Q E h => ?_) (fun cdv A outer s H vs Q E hr h => ?_), hm, F.kp, hb⟩
  · obtain ⟨b, g, c, n, k, v, d, rfl, _⟩ := h
    rfl
  · obtain ⟨b, g, c, n, k, v, d, rfl, B, hn, hk, hk5, ok, top, q⟩ := h
    refine ⟨_, (pss_cons (ps_set (i := 2) sc_l_bent_form.nd rfl (Or.inl rfl) (pe_call G_l_take (hr.mono (by omega)) rfl m_l_take k_l_take b_l_take .nil pass0 (pa_cons (pv 0) (pa_cons pe_int pa_nil))))
      (pss_cons (ps_if (PW.pt (pw_or (pt_not (pt_val (pe_callB (cr_isi (K := K) rfl) (by rfl) T.n_isinstance (by decide +kernel) (pa_cons (pv 1) (pa_cons (pe_bltn (v := .ty "tuple") (by rfl) T.n_tuple (by decide +kernel) rfl) pa_nil))))) (pw_or (pt_cmpR op_ne (pe_callB call_len_seq (by rfl) T.n_len (by decide +kernel) (pa_cons (pv 1) pa_nil)) pe_int (nomark _)) (pw_or (pt_not (pt_val (pe_callB (cr_isi (K := K) rfl) (by rfl) T.n_isinstance (by decide +kernel) (pa_cons (pe_ix ix_tup (pv 1) pe_int (fun _ _ => rfl)) (pa_cons (pe_bltn (v := .ty "tuple") (by rfl) T.n_tuple (by decide +kernel) rfl) pa_nil))))) (pw_or1 (pt_cmpR op_eq (pv 2) pe_int (nomark _))))))) (pss_one (ps_ret (pv 1))) pss_nil)
      (pss_cons (ps_asg (pv 1) (pg_tup (by rfl) (pgs_cons (pg_name (i := 3) sc_l_bent_form.nd rfl (Or.inl rfl)) (pgs_cons (pg_name (i := 4) sc_l_bent_form.nd rfl (Or.inl rfl)) pgs_nil))))
      (pss_cons (ps_if (pt_cmpR op_eq (pv 2) pe_int (nomark _)) (pss_one (ps_ret (pe_ix ix_list (pe_lst (pa_cons (pe_callTy call_list_of (by rfl) T.n_list (by decide +kernel) (pa_cons (pv 1) pa_nil)) (pa_cons (pe_op op_catA (pv 1) (pe_tup (pa_cons (pe_tup pa_nil) pa_nil))) (pa_cons (pe_slice sl_tupA (pv 1) po_none (po_some pe_int)) (pa_cons (pe_tup (pa_cons (pe_callTy call_list_of (by rfl) T.n_list (by decide +kernel) (pa_cons (pv 3) pa_nil)) (pa_cons (pv 4) pa_nil))) (pa_cons (pv 3) (pa_cons pe_non pa_nil))))))) (pe_call G_l_take (hr.mono (by omega)) rfl m_l_take k_l_take b_l_take .nil pass0 (pa_cons (pv 0) (pa_cons pe_int pa_nil))) (fun _ _ => rfl)))) pss_nil)
      (pss_cons (ps_if (pt_cmpR op_eq (pv 2) pe_int (nomark _)) (pss_one (ps_ret (pe_tup (pa_cons (pv 3) (pa_cons (pe_ix ix_list (pe_lst (pa_cons pe_int (pa_cons pe_bl (pa_cons (pe_tup (pa_cons pe_int (pa_cons pe_int pa_nil))) (pa_cons (pe_tup (pa_cons pe_int (pa_cons pe_int pa_nil))) (pa_cons (pe_lst (pa_cons pe_int (pa_cons pe_int pa_nil))) (pa_cons pe_non pa_nil))))))) (pe_call G_l_take (hr.mono (by omega)) rfl m_l_take k_l_take b_l_take .nil pass0 (pa_cons (pv 0) (pa_cons pe_int pa_nil))) (fun _ _ => rfl)) pa_nil))))) pss_nil)
      (pss_cons (ps_if (pt_cmpR op_eq (pe_callB call_len_seq (by rfl) T.n_len (by decide +kernel) (pa_cons (pv 3) pa_nil)) pe_int (nomark _)) (pss_one (ps_ret (pe_tup (pa_cons (pe_tup (pa_cons (pe_tup pa_nil) pa_nil)) (pa_cons (pv 4) pa_nil))))) pss_nil)
      (pss_cons (ps_set (i := 5) sc_l_bent_form.nd rfl (Or.inl rfl) (pe_call G_l_take (hr.mono (by omega)) rfl m_l_take k_l_take b_l_take .nil pass0 (pa_cons (pv 0) (pa_cons (pe_callB call_len_seq (by rfl) T.n_len (by decide +kernel) (pa_cons (pv 3) pa_nil)) pa_nil))))
      (pss_cons (ps_if (pt_cmpR op_eq (pv 2) pe_int (nomark _)) (pss_one (ps_ret (pe_tup (pa_cons (pe_revT (pv 3)) (pa_cons (pv 4) pa_nil))))) pss_nil)
      (pss_cons (ps_if (pt_cmpR op_eq (pv 2) pe_int (nomark _)) (pss_one (ps_ret (pe_tup (pa_cons (pe_op op_catA (pv 3) (pe_slice sl_tupA (pv 3) (po_some (pv 5)) (po_some (pe_op op_add (pv 5) pe_int)))) (pa_cons (pv 4) pa_nil))))) pss_nil)
      (pss_cons (ps_if (PW.pt (pw_or (pt_not (pt_val (pe_callB (cr_isi (K := K) rfl) (by rfl) T.n_isinstance (by decide +kernel) (pa_cons (pe_ix ix_tup (pv 3) (pv 5) (fun _ _ => rfl)) (pa_cons (pe_bltn (v := .ty "tuple") (by rfl) T.n_tuple (by decide +kernel) rfl) pa_nil))))) (pw_or (pt_cmpR op_ne (pe_callB call_len_seq (by rfl) T.n_len (by decide +kernel) (pa_cons (pe_ix ix_tup (pv 3) (pv 5) (fun _ _ => rfl)) pa_nil)) pe_int (nomark _)) (pw_or1 (pt_not (pt_val (pe_call G_l_is_ratio (hr.mono (by omega)) rfl m_l_is_ratio k_l_is_ratio b_l_is_ratio .nil pass0 (pa_cons (pe_ix ix_tup (pe_ix ix_tup (pv 3) (pv 5) (fun _ _ => rfl)) pe_int (fun _ _ => rfl)) pa_nil)))))))) (pss_one (ps_ret (pv 1))) pss_nil)
      (pss_one (ps_ret (pe_tup (pa_cons (pe_op op_catA (pe_op op_catA (pe_slice sl_tupA (pv 3) po_none (po_some (pv 5))) (pe_tup (pa_cons (pe_call G_l_bent_term (hr.mono (by omega)) rfl m_l_bent_term k_l_bent_term b_l_bent_term .nil pass0 (pa_cons (pv 0) (pa_cons (pe_ix ix_tup (pv 3) (pv 5) (fun _ _ => rfl)) pa_nil))) pa_nil))) (pe_slice sl_tupA (pv 3) (po_some (pe_op op_add (pv 5) pe_int)) po_none)) (pa_cons (pv 4) pa_nil))))))))))))))), ?_⟩
    refine ⟨_, rfl, b, g, c, _, 8, rfl, B, by omega, by decide, pow8000' 8 4 (by decide) (by decide), fun way H1 w0 w1 B1 b1 => ?_⟩
    have ok1 := ok.draw b1
    have hd1 := dp_same (mk_sub b g H1) _ _ ok1.1
    have same : Q v H1 := q v d H1 ⟨ok1.1, ok1.2.1, smallI_up (Nat.le_succ k) _ ok1.2.2⟩ (fun h _ => by omega) (B1.mono (by omega)) b1
    refine ⟨_, rfl, _, _, _, _, _, rfl, .ty _, dp_ty hd1, kit_ty (kb_tup d), _, rfl, ?_⟩
    refine ite2 (fun c0 => ?_) (fun c0 => ?_)
    · exact ⟨_, rfl, same⟩
    · obtain ⟨ds, rfl⟩ : ∃ ds, d = .tuple ds := by cases d <;> first | exact ⟨_, rfl⟩ | exact absurd rfl c0
      obtain ⟨dM, shM, smM⟩ := ok1
      cases dM with
      | @tup a xs _ hsM haM =>
        have hl := dps_len haM
        have hs := same_seqT (mk_sub b g H1) hsM
        refine ⟨_, rfl, a, _, rfl, .inr hs, rfl, _, rfl, ?_⟩
        refine ite2 (fun c2 => ?_) (fun c2 => ?_)
        · exact ⟨_, rfl, same⟩
        · have h2 : xs.length = 2 := by
            by_cases z : (xs.length : Int) = 2
            · omega
            · exact absurd (by simp [z]) c2
          obtain ⟨d1, d2, rfl⟩ : ∃ d1 d2, ds = [d1, d2] := by
            rw [h2] at hl
            match ds, hl with
            | [d1, d2], _ => exact ⟨d1, d2, rfl⟩
          cases haM with
          | @cons x1 _ _ _ h1M haM =>
            cases haM with
            | @cons x2 _ _ _ h2M haM =>
              cases haM
              have h1 := dp_same (mk_sub b g H1) _ _ h1M
              refine ⟨_, rfl, a, _, _, x1, rfl, rfl, hs, at_of (j := 0) rfl rfl, _, _, _, _, _, rfl, .ty _, dp_ty h1, kit_ty (kb_tup d1), _, rfl, ?_⟩
              refine ite2 (fun c3 => ?_) (fun c3 => ?_)
              · exact ⟨_, rfl, same⟩
              · refine ⟨_, rfl, rfl, _, rfl, ?_⟩
                refine ite2 (fun c4 => ?_) (fun c4 => ?_)
                · exact ⟨_, rfl, same⟩
                · obtain ⟨ts, rfl⟩ : ∃ ts, d1 = .tuple ts := by cases d1 <;> first | exact ⟨_, rfl⟩ | exact absurd rfl c3
                  cases h1M with
                  | @tup a1 ys _ hs1M ha1M =>
                    have hl1 := dps_len ha1M
                    have hs1 := same_seqT (mk_sub b g H1) hs1M
                    have sh1 : shortD (.tuple ts) = true ∧ shortD d2 = true := ⟨(short_tup shM).2 _ (List.mem_cons_self ..), (short_tup shM).2 _ (List.mem_cons_of_mem _ (List.mem_cons_self ..))⟩
                    have sm1 : smallI (k + 1) (.tuple ts) = true ∧ smallI (k + 1) d2 = true := by
                      have z := Bool.and_eq_true_iff.mp (show (smallI k (.tuple ts) && (smallI k d2 && true)) = true from smM)
                      have y := z.2
                      rw [Bool.and_true] at y
                      exact ⟨smallI_up (Nat.le_succ k) _ z.1, smallI_up (Nat.le_succ k) _ y⟩
                    have lt20 : ts.length ≤ 20 := top
                    refine ⟨_, rfl, a, _, rfl, hs, rfl, .ref a1, _, rfl, x2, _, rfl, rfl, ?_⟩
                    have okT : Okv K b g H1 (k + 1) (.ref a1) (.tuple ts) := ⟨.tup hs1M ha1M, sh1.1, sm1.1⟩
                    have okC : Okv K b g H1 (k + 1) x2 d2 := ⟨h2M, sh1.2, sm1.2⟩
                    refine ⟨_, rfl, rfl, _, rfl, ?_⟩
                    refine ite2 (fun _ => ?_) (fun _ => ?_)
                    · -- way 1: six of them
                      have okW : Okv K b g H1 (k + 1) (.ref a) (.tuple [.tuple ts, d2]) := ⟨.tup hsM (.cons (.tup hs1M ha1M) (.cons h2M .nil)), shM, smallI_up (Nat.le_succ k) _ smM⟩
                      refine ⟨_, rfl, a, _, rfl, .inr hs, fun p1 np1 => ?_⟩
                      have t1 := same_new np1 (.lst [V.ref a1, x2])
                      have k1 := dp_newL (K := K) B1 (.cons okT.1 (.cons okC.1 .nil)) np1
                      refine ⟨_, rfl, (by show 0 ≤ sizeLine; decide), fun p2 np2 => ⟨(by show 1 ≤ sizeLine; decide), fun p3 np3 => ?_⟩⟩
                      have t2 := same_new np2 (.tup [])
                      have t3 := same_new np3 (.tup [V.ref p2])
                      have B3 := B1.same (t1.trans (t2.trans t3))
                      have k3 := dp_newT (K := K) (B1.same (t1.trans t2)) (.cons (dp_newT (K := K) (B1.same t1) .nil np2) .nil) np3
                      have t13 := t1.trans (t2.trans t3)
                      have k1' := dp_up k1 (t2.trans t3)
                      refine catA_dp B3 (dp_up okW.1 t13) k3 (by show 2 + 1 ≤ 1000; decide) fun r4 H4 t4 k4 => ?_
                      have B4 := B3.same t4
                      refine ⟨_, rfl, _, rfl, slA_dp B4 (dp_up okW.1 (t13.trans t4)) fun r5 H5 t5 k5 => ?_⟩
                      have B5 := B4.same t5
                      have t15 := t13.trans (t4.trans t5)
                      refine ⟨_, rfl, a1, _, rfl, .inr (same_seqT t15 hs1), fun p6 np6 => ⟨_, rfl, (by show 2 ≤ sizeLine; decide), fun p7 np7 => ⟨_, rfl, ?_⟩⟩⟩
                      have t6 := same_new np6 (.lst ys)
                      have t7 := same_new np7 (.tup [V.ref p6, x2])
                      have k6 := dp_newL (K := K) B5 (dps_same (mk_but (But.of t15)) _ _ ha1M) np6
                      have k7 := dp_newT (K := K) (B5.same t6) (.cons k6 (.cons (dp_up okC.1 (t15.trans t6)) .nil)) np7
                      have B7 := B5.same (t6.trans t7)
                      have k1'' := dp_up k1' (t4.trans (t5.trans (t6.trans t7)))
                      have k4' := dp_up k4 (t5.trans (t6.trans t7))
                      have k5' := dp_up k5 (t6.trans t7)
                      have t17 := t15.trans (t6.trans t7)
                      have okT7 := dp_up okT.1 t17
                      generalize upd (upd H5 p6 (.lst ys)) p7 (.tup [V.ref p6, x2]) = H7 at k1'' k4' k5' k7 B7 t17 okT7
                      refine ⟨(by show 6 ≤ sizeLine; decide), fun p20 np20 => ⟨_, rfl, b, g, c, _, 6, rfl, B7.same (same_new np20 _), (by omega), (by decide), (by decide), fun r20 H20 r020 r120 B20 bt20 => ?_⟩⟩
                      have hp20 := But.new B7 np20 bt20
                      have bu20 := But.after np20 bt20
                      obtain ⟨v20, hv20, hat20⟩ := at_pick hp20 r020 r120 rfl
                      refine ⟨p20, _, r20, v20, rfl, rfl, SqL.of hp20, hat20, ?_⟩
                      have smt := small_all.mp (show smallIs (k + 1) ts = true from sm1.1)
                      have sht := short_tup sh1.1
                      have shl : shortD (.list ts) = true := sh1.1
                      have sml : smallI (k + 1) (.list ts) = true := sm1.1
                      have fin : ∃ d, Okv K b g H20 (k + 1) v20 d ∧ (innLen (.tuple [.tuple ts, d2]) ≤ 20 → topLen d ≤ 20) := by
                        simp only [List.mem_cons, List.not_mem_nil, or_false] at hv20
                        rcases hv20 with e | e | e | e | e | e
                        · exact ⟨.list [.tuple ts, d2], ⟨e ▸ dp_dr k1'' bu20, short_pair sh1.1 sh1.2, small_pair sm1.1 sm1.2⟩, fun _ => Nat.zero_le _⟩
                        · refine ⟨.tuple ([.tuple ts, d2] ++ [.tuple []]), ⟨e ▸ dp_dr k4' bu20, ?_, ?_⟩, fun _ => Nat.zero_le _⟩
                          · show (true && (shortD (.tuple ts) && (shortD d2 && (true && true)))) = true
                            rw [sh1.1, sh1.2]
                            rfl
                          · show (smallI (k + 1) (.tuple ts) && (smallI (k + 1) d2 && (true && true))) = true
                            rw [sm1.1, sm1.2]
                            rfl
                        · refine ⟨.tuple [.tuple ts], ⟨e ▸ dp_dr k5' bu20, ?_, ?_⟩, fun _ => Nat.zero_le _⟩
                          · show (true && (shortD (.tuple ts) && true)) = true
                            rw [sh1.1]
                            rfl
                          · show (smallI (k + 1) (.tuple ts) && true) = true
                            rw [sm1.1]
                            rfl
                        · exact ⟨.tuple [.list ts, d2], ⟨e ▸ dp_dr k7 bu20, short_pair shl sh1.2, small_pair sml sm1.2⟩, fun _ => Nat.zero_le _⟩
                        · refine ⟨.tuple ts, ⟨e ▸ dp_dr okT7 bu20, sh1.1, sm1.1⟩, fun hin => ?_⟩
                          match ts, hin with
                          | [], _ => exact Nat.zero_le _
                          | [x], _ => exact (by cases x <;> exact Nat.zero_le _)
                          | x :: [_], hin => exact (by cases x <;> first | exact hin | exact Nat.zero_le _)
                          | x :: _ :: _ :: _, _ => exact (by cases x <;> exact Nat.zero_le _)
                        · exact ⟨.none, ⟨e ▸ .non, rfl, rfl⟩, fun _ => Nat.zero_le _⟩
                      obtain ⟨d, kd, kt⟩ := fin
                      exact q _ d _ kd (fun _ hi => kt hi) (B20.mono (by omega)) ((b1.trans (But.of t17)).trans bu20)
                    refine ⟨_, rfl, rfl, _, rfl, ?_⟩
                    refine ite2 (fun _ => ?_) (fun _ => ?_)
                    · -- way 2: another constant
                      have big : ∀ m : Nat, m < 32 → m < 2 ^ (k + 1) := fun m hm => Nat.lt_of_lt_of_le hm (show 2 ^ 5 ≤ 2 ^ (k + 1) from Nat.pow_le_pow_right (by decide) (by omega))
                      have sm : ∀ x y : Int, x.natAbs < 32 → y.natAbs < 32 → (smallI (k + 1) (.int x) && (smallI (k + 1) (.int y) && true)) = true := fun x y hx hy => by
                        show (decide _ && (decide _ && true)) = true
                        rw [decide_eq_true (big _ hx), decide_eq_true (big _ hy)]
                        rfl
                      refine ⟨_, rfl, (by show 2 ≤ sizeLine; decide), fun p1 np1 => ⟨(by show 2 ≤ sizeLine; decide), fun p2 np2 => ⟨(by show 2 ≤ sizeLine; decide), fun p3 np3 => ?_⟩⟩⟩
                      have t1 := same_new np1 (.tup [V.int 0, V.int 2])
                      have t2 := same_new np2 (.tup [V.int 1, V.int 0])
                      have t3 := same_new np3 (.lst [V.int 1, V.int 1])
                      have k1 := okv_tup (K := K) (k := k + 1) B1 (.cons (.int 0) (.cons (.int 2) .nil)) rfl (sm 0 2 (by decide) (by decide)) np1
                      have k2 := okv_tup (K := K) (k := k + 1) (B1.same t1) (.cons (.int 1) (.cons (.int 0) .nil)) rfl (sm 1 0 (by decide) (by decide)) np2
                      have k3 := okv_lst (K := K) (k := k + 1) (B1.same (t1.trans t2)) (.cons (.int 1) (.cons (.int 1) .nil)) rfl (sm 1 1 (by decide) (by decide)) np3
                      have k1' := k1.keep (t2.trans t3)
                      have k2' := k2.keep t3
                      have t13 := t1.trans (t2.trans t3)
                      generalize upd (upd (upd H1 p1 (.tup [V.int 0, V.int 2])) p2 (.tup [V.int 1, V.int 0])) p3 (.lst [V.int 1, V.int 1]) = H3 at t13 k1' k2' k3
                      have B3 := B1.same t13
                      refine ⟨(by show 6 ≤ sizeLine; decide), fun p20 np20 => ⟨_, rfl, b, g, c, _, 6, rfl, B3.same (same_new np20 _), (by omega), (by decide), (by decide), fun r20 H20 r020 r120 B20 bt20 => ?_⟩⟩
                      have hp20 := But.new B3 np20 bt20
                      have bu20 := But.after np20 bt20
                      obtain ⟨v20, hv20, hat20⟩ := at_pick hp20 r020 r120 rfl
                      refine ⟨p20, _, r20, v20, rfl, rfl, SqL.of hp20, hat20, ?_⟩
                      have fin : ∃ d, Okv K b g H20 (k + 1) v20 d := by
                        simp only [List.mem_cons, List.not_mem_nil, or_false] at hv20
                        rcases hv20 with e | e | e | e | e | e
                        · exact ⟨.int 0, e ▸ .int _, rfl, decide_eq_true (big 0 (by decide))⟩
                        · exact ⟨.bool true, e ▸ .bl _, rfl, rfl⟩
                        · exact ⟨_, e ▸ k1'.draw bu20⟩
                        · exact ⟨_, e ▸ k2'.draw bu20⟩
                        · exact ⟨_, e ▸ k3.draw bu20⟩
                        · exact ⟨.none, e ▸ .non, rfl, rfl⟩
                      obtain ⟨d, kd⟩ := fin
                      refine ⟨(by show 2 ≤ sizeLine; decide), fun p9 np9 => ?_⟩
                      refine q _ _ _ (okv_pair B20 ((okT.keep t13).draw bu20) kd np9) (fun _ _ => lt20) ((B20.same (same_new np9 _)).mono (by omega)) (((b1.trans (But.of t13)).trans bu20).trans (But.of (same_new np9 _)))
                    refine ⟨_, rfl, a1, _, rfl, .inr hs1, rfl, _, rfl, ?_⟩
                    refine ite2 (fun e0 => ?_) (fun e0 => ?_)
                    · refine ⟨(by show 0 ≤ sizeLine; decide), fun p1 np1 => ⟨(by show 1 ≤ sizeLine; decide), fun p2 np2 => ⟨_, rfl, (by show 2 ≤ sizeLine; decide), fun p3 np3 => ?_⟩⟩⟩
                      have t1 := same_new np1 (.tup [])
                      have t2 := same_new np2 (.tup [V.ref p1])
                      have k1 := okv_tup (K := K) (k := k + 1) (ds := []) B1 .nil rfl rfl np1
                      have k2 := okv_tup (K := K) (k := k + 1) (ds := [.tuple []]) (B1.same t1) (.cons k1.1 .nil) rfl rfl np2
                      have t12 := t1.trans t2
                      refine q _ _ _ (okv_pair (B1.same t12) k2 (okC.keep t12) np3) (fun _ _ => (by decide : 1 ≤ 20)) ((B1.same (t12.trans (same_new np3 _))).mono (by omega)) (b1.trans (But.of (t12.trans (same_new np3 _))))
                    · have lpos : 0 < ts.length := by
                        cases ts with
                        | nil =>
                          have : ys = [] := List.length_eq_zero_iff.mp hl1
                          subst this
                          exact absurd rfl e0
                        | cons t ts => exact Nat.succ_pos _
                      refine ⟨_, rfl, _, rfl, a1, _, rfl, .inr hs1, b, g, c, _, (ys.length : Int), rfl, B1, by omega, by omega, pow8000' _ 6 (by decide) (by show ((ys.length : Nat) : Int).natAbs < 64; omega), fun at_ H2 a0 a1b B2 b2 => ?_⟩
                      obtain ⟨j, rfl⟩ : ∃ j : Nat, at_ = (j : Int) := ⟨at_.toNat, by omega⟩
                      have hj : j < ys.length := by omega
                      have okT2 := okT.draw b2
                      have okC2 := okC.draw b2
                      have hsM2 : SqT K (mk b g H2) a1 ys := same_seqT (mk_but b2) hs1M
                      have haM2 : DpAll K (mk b g H2) ys ts := dps_same (mk_but b2) _ _ ha1M
                      have hs2 := same_seqT (mk_sub b g H2) hsM2
                      have bt2 := b1.trans b2
                      have sht := short_tup sh1.1
                      have smt := small_all.mp (show smallIs (k + 1) ts = true from sm1.1)
                      refine ⟨_, rfl, rfl, _, rfl, ?_⟩
                      refine ite2 (fun _ => ?_) (fun _ => ?_)
                      · refine ⟨_, rfl, a1, ys, rfl, hs2, fun p1 np1 => ⟨_, rfl, (by show 2 ≤ sizeLine; decide), fun p2 np2 => ?_⟩⟩
                        have t1 := same_new np1 (.tup ys.reverse)
                        have k1 := okv_tup (K := K) (k := k + 1) B2 (dps_rev haM2) (short_of (by rw [List.length_reverse]; omega) fun d hd => sht.2 d (List.mem_reverse.mp hd)).1 (small_all.mpr fun d hd => smt d (List.mem_reverse.mp hd)) np1
                        refine q _ _ _ (okv_pair (B2.same t1) k1 (okC2.keep t1) np2) (fun _ _ => by show ts.reverse.length ≤ 20; rw [List.length_reverse]; exact lt20) ((B2.same (t1.trans (same_new np2 _))).mono (by omega)) (bt2.trans (But.of (t1.trans (same_new np2 _))))
                      refine ⟨_, rfl, rfl, _, rfl, ?_⟩
                      refine ite2 (fun _ => ?_) (fun _ => ?_)
                      · refine ⟨_, rfl, _, rfl, _, rfl, _, rfl, _, rfl, _, _, rfl, rfl, _, rfl, slA_dp B2 okT2.1 fun r3 H3 t3 k3 => ?_⟩
                        have l3 := cut_len1 (ts := ts) (j := j)
                        have B3 := B2.same t3
                        refine catA_dp B3 (dp_up okT2.1 t3) k3 (by omega) fun r4 H4 t4 k4 => ⟨_, rfl, (by show 2 ≤ sizeLine; decide), fun p5 np5 => ?_⟩
                        have t34 := t3.trans t4
                        have mem : ∀ d ∈ ts ++ cutD ts (some (j : Int)) (some ((j : Int) + 1)), d ∈ ts := fun d hd => (List.mem_append.mp hd).elim id cutD_mem
                        have ok4 : Okv K b g H4 (k + 1) (.ref r4) (.tuple (ts ++ cutD ts (some (j : Int)) (some ((j : Int) + 1)))) := ⟨k4, (short_of (by rw [List.length_append]; omega) fun d hd => sht.2 d (mem d hd)).1, small_all.mpr fun d hd => smt d (mem d hd)⟩
                        refine q _ _ _ (okv_pair (B3.same t4) ok4 (okC2.keep t34) np5) (fun h19 _ => by have h19 : ts.length ≤ 19 := h19; show (ts ++ cutD ts (some (j : Int)) (some ((j : Int) + 1))).length ≤ 20; rw [List.length_append]; omega) (((B3.same t4).same (same_new np5 _)).mono (by omega)) (bt2.trans (But.of (t34.trans (same_new np5 _))))
                      · have sameAt : ∀ H', But b g H H' → Box H' b g c (n + 20) → Q (.ref a) H' := fun H' bt B' => q _ _ H' ⟨dp_dr ok.1 bt, ok.2.1, smallI_up (Nat.le_succ k) _ ok.2.2⟩ (fun _ _ => top) B' bt
                        have smk := small_all.mp (Bool.and_eq_true_iff.mp (show (smallI k (.tuple ts) && (smallI k d2 && true)) = true from smM)).1
                        have hat : atI ys (j : Int) = some ys[j] := atI_nat (List.getElem?_eq_getElem hj)
                        obtain ⟨dt, hdt, hdxM⟩ := dps_get haM2 (List.getElem?_eq_getElem hj)
                        have hdm := List.mem_of_getElem? hdt
                        have hdx := dp_same (mk_sub b g H2) _ _ hdxM
                        refine ⟨_, rfl, _, rfl, a1, _, _, _, rfl, rfl, hs2, hat, _, _, _, _, _, rfl, .ty _, dp_ty hdx, kit_ty (kb_tup dt), _, rfl, ?_⟩
                        refine ite2 (fun c5 => ?_) (fun c5 => ?_)
                        · exact ⟨_, rfl, sameAt _ bt2 (B2.mono (by omega))⟩
                        · obtain ⟨es, rfl⟩ : ∃ es, dt = .tuple es := by cases dt <;> first | exact ⟨_, rfl⟩ | exact absurd rfl c5
                          generalize hy : ys[j] = y at hat hdx hdxM
                          have okE : Okv K b g H2 k y (.tuple es) := ⟨hdxM, sht.2 _ hdm, smk _ hdm⟩
                          cases hdx with
                          | @tup at2 zs _ hsz haz =>
                            have hlz := dps_len haz
                            refine ⟨_, rfl, _, rfl, a1, _, _, _, rfl, rfl, hs2, hat, at2, _, rfl, .inr hsz, rfl, _, rfl, ?_⟩
                            refine ite2 (fun c6 => ?_) (fun c6 => ?_)
                            · exact ⟨_, rfl, sameAt _ bt2 (B2.mono (by omega))⟩
                            · have h22 : zs.length = 2 := by
                                by_cases y : (zs.length : Int) = 2
                                · omega
                                · exact absurd (by simp [y]) c6
                              obtain ⟨e1, e2, rfl⟩ : ∃ e1 e2, es = [e1, e2] := by
                                rw [h22] at hlz
                                match es, hlz with
                                | [e1, e2], _ => exact ⟨e1, e2, rfl⟩
                              cases haz with
                              | @cons n1 _ _ _ hn haz =>
                                cases haz with
                                | @cons r1 _ _ _ hr1 haz =>
                                  cases haz
                                  refine ⟨_, rfl, _, rfl, a1, _, _, _, rfl, rfl, hs2, hat, at2, _, _, r1, rfl, rfl, hsz, rfl, r1, e2, rfl, hr1, fun H3 s3 => ⟨_, rfl, ?_⟩⟩
                                  have B3 := B2.same s3
                                  refine ite2 (fun c7 => ?_) (fun c7 => ?_)
                                  · exact ⟨_, rfl, sameAt _ (bt2.trans (But.of s3)) (B3.mono (by omega))⟩
                                  · obtain ⟨z, hz⟩ : ∃ z, ratOf e2 = some z := by
                                      cases hr : ratOf e2 with
                                      | some z => exact ⟨z, rfl⟩
                                      | none =>
                                        unfold isRat at c7
                                        rw [hr] at c7
                                        exact absurd rfl c7
                                    have e2z : e2 = numD z := ratOf_is hz
                                    subst e2z
                                    refine ⟨_, rfl, _, rfl, _, rfl, slA_dp B3 (dp_up okT2.1 s3) fun r4 H4 t4 k4 => ?_⟩
                                    have B4 := B3.same t4
                                    refine ⟨_, rfl, _, rfl, _, rfl, a1, _, _, _, rfl, rfl, same_seqT (s3.trans t4) hs2, hat, b, g, c, _, k, _, e1, z, rfl, B4, by omega, hk, hk5, okE.keep (s3.trans t4), fun r5 d5 H5 ok5 B5 b5 => ⟨(by show 1 ≤ sizeLine; decide), fun p6 np6 => ?_⟩⟩
                                    have t6 := same_new np6 (.tup [r5])
                                    have k6 := dp_newT (K := K) B5 (.cons ok5.1 .nil) np6
                                    have B6 := B5.same t6
                                    have lj : j ≤ ts.length := by omega
                                    have lj2 : j < ts.length := by omega
                                    refine catA_dp B6 (dp_up (dp_dr k4 b5) t6) k6 (by rw [cut_to lj, List.length_take]; show _ + 1 ≤ 1000; omega) fun r7 H7 t7 k7 => ?_
                                    have B7 := B6.same t7
                                    have okT7 := (okT2.keep (s3.trans t4)).draw (b5.trans (But.of (t6.trans t7)))
                                    refine ⟨_, rfl, _, rfl, _, _, rfl, rfl, _, rfl, ?_⟩
                                    unfold tNoPart
                                    refine slA_dp B7 okT7.1 fun r8 H8 t8 k8 => ?_
                                    have B8 := B7.same t8
                                    have lens : (cutD ts none (some (j : Int)) ++ [d5]).length + (cutD ts (some ((j : Int) + 1)) none).length = ts.length := by
                                      rw [cut_to lj, cut_from lj2, List.length_append, List.length_take, List.length_drop]
                                      show min j ts.length + 1 + _ = _
                                      omega
                                    refine catA_dp B8 (dp_up k7 t8) k8 (by omega) fun r9 H9 t9 k9 => ⟨_, rfl, (by show 2 ≤ sizeLine; decide), fun p10 np10 => ?_⟩
                                    have mem : ∀ d ∈ (cutD ts none (some (j : Int)) ++ [d5]) ++ cutD ts (some ((j : Int) + 1)) none, d ∈ ts ∨ d = d5 := fun d hd => by
                                      rcases List.mem_append.mp hd with hd | hd
                                      · rcases List.mem_append.mp hd with hd | hd
                                        · exact .inl (cutD_mem hd)
                                        · exact .inr (List.mem_singleton.mp hd)
                                      · exact .inl (cutD_mem hd)
                                    have lall : ((cutD ts none (some (j : Int)) ++ [d5]) ++ cutD ts (some ((j : Int) + 1)) none).length = ts.length := by rw [List.length_append]; exact lens
                                    have ok9 : Okv K b g H9 (k + 1) (.ref r9) (.tuple ((cutD ts none (some (j : Int)) ++ [d5]) ++ cutD ts (some ((j : Int) + 1)) none)) := ⟨k9, (short_of (by rw [lall]; omega) fun d hd => (mem d hd).elim (sht.2 d) fun e => e ▸ ok5.2.1).1, small_all.mpr fun d hd => (mem d hd).elim (smt d) fun e => e ▸ ok5.2.2⟩
                                    have bt9 := (bt2.trans (But.of (s3.trans t4))).trans (b5.trans (But.of (t6.trans (t7.trans (t8.trans t9)))))
                                    have okC9 := (okC2.keep (s3.trans t4)).draw (b5.trans (But.of (t6.trans (t7.trans (t8.trans t9)))))
                                    exact q _ _ _ (okv_pair (B8.same t9) ok9 okC9 np10) (fun _ _ => by show ((cutD ts none (some (j : Int)) ++ [d5]) ++ cutD ts (some ((j : Int) + 1)) none).length ≤ 20; rw [lall]; exact lt20) (((B8.same t9).same (same_new np10 _)).mono (by omega)) (bt9.trans (But.of (same_new np10 _)))
end

theorem iteEqv {c : Bool} {A B : Prop} (hc : c = true) (h : B) : if (!c) = true then A else B := by
  rw [hc]
  exact iteF h
def spLaw (K : PySem.W.Frag) : Sp := fun vs H Q _ => ∃ (a : Addr) (ns : List Int), vs = [.ref a] ∧ SqL K H a (ns.map V.int) ∧ ns.length ≤ 63 ∧ ∀ H', Q (.bl true) H'
theorem ratOf_red2 {z : Int × Int} (h : Red z) : ratOf (numD z) = some z := by
  show (if 1 ≤ z.2 ∧ Int.gcd z.1 z.2 = 1 then some (z.1, z.2) else none) = some z
  rw [if_pos ⟨h.pos, h.co⟩]
theorem termD_good {x : Str} {z : Int × Int} (hx : nameL x.cps.toList = true) (hz : Red z) (h0 : z.1 ≠ 0) : termD (termN x z) = true := by
  show (nameL x.cps.toList && (match ratOf (numD z) with | some z => decide (z.1 ≠ 0) | none => false)) = true
  rw [ratOf_red2 hz, hx, Bool.true_and]
  exact decide_eq_true h0
theorem formD_good {ts : List (Str × (Int × Int))} {c : Int × Int} (g : GoodF ts c) : formD (formN ts c) = true := by
  show (isRat (numD c) && ((ts.map fun t => termN t.1 t.2).all termD && inOrder ((ts.map fun t => termN t.1 t.2).map fstName))) = true
  have h1 : isRat (numD c) = true := by unfold isRat; rw [ratOf_red2 g.const.1]; rfl
  have h2 : (ts.map fun t => termN t.1 t.2).all termD = true := by
    rw [List.all_eq_true]
    intro d hd
    obtain ⟨t, ht, rfl⟩ := List.mem_map.mp hd
    obtain ⟨a, b, e, _⟩ := g.terms t ht
    exact termD_good a b e
  have h3 : (ts.map fun t => termN t.1 t.2).map fstName = ts.map (·.1) := by rw [List.map_map]; rfl
  rw [h1, h2, h3, g.order]
  rfl
theorem short_name {x : Str} (h : nameL x.cps.toList = true) : shortD (.str x) = true := by
  refine decide_eq_true ?_
  unfold nameL at h
  rw [Bool.and_eq_true, Bool.and_eq_true, Bool.and_eq_true, Bool.and_eq_true, decide_eq_true_eq, decide_eq_true_eq] at h
  have z : x.cps.toList.length < 9 := h.1.1.1.2
  rw [Array.length_toList] at z
  exact Nat.le_of_lt (Nat.lt_of_lt_of_le z (by decide))
theorem short_good {ts : List (Str × (Int × Int))} {c : Int × Int} (g : GoodF ts c) : shortD (formN ts c) = true := by
  refine short_pair (short_of (by rw [List.length_map]; exact Nat.le_trans g.few (by decide)) fun d hd => ?_).1 (b := numD c) rfl
  obtain ⟨t, ht, rfl⟩ := List.mem_map.mp hd
  exact short_pair (short_name (g.terms t ht).1) (b := numD t.2) rfl
theorem small_num {k : Nat} {z : Int × Int} (h : Sz k z) : smallI k (numD z) = true := by
  show (decide (z.1.natAbs < 2 ^ k) && (decide (z.2.natAbs < 2 ^ k) && true)) = true
  rw [decide_eq_true h.1, decide_eq_true h.2]
  rfl
theorem small_good {ts : List (Str × (Int × Int))} {c : Int × Int} (g : GoodF ts c) : smallI 700 (formN ts c) = true := by
  refine small_pair (small_all.mpr fun d hd => ?_) (small_num g.const.2)
  obtain ⟨t, ht, rfl⟩ := List.mem_map.mp hd
  exact small_pair (a := .str t.1) rfl (small_num (g.terms t ht).2.2.2)
theorem one_sz : Sz 700 (1, 1) := ⟨by decide +kernel, by decide +kernel⟩
theorem one_good {x : Str} (h : nameL x.cps.toList = true) : GoodF [(x, (1, 1))] (0, 1) where
  terms := fun t ht => by
    rw [List.mem_singleton.mp ht]
    exact ⟨h, red_one 1, by show (1 : Int) ≠ 0; decide, one_sz⟩
  order := by
    show (decide ([x] : List Str).Nodup && PyProof.Rows.sortedS [x]) = true
    rw [decide_eq_true (show ([x] : List Str).Nodup from List.pairwise_singleton _ _)]
    rfl
  const := ⟨red_one 0, ⟨by decide +kernel, by decide +kernel⟩⟩
  few := by show 1 ≤ 6; decide
theorem top_good {ts : List (Str × (Int × Int))} {c : Int × Int} (g : GoodF ts c) : topLen (formN ts c) ≤ 6 ∧ innLen (formN ts c) ≤ 2 := by
  constructor
  · show (ts.map fun t => termN t.1 t.2).length ≤ 6
    rw [List.length_map]
    exact g.few
  · cases ts with
    | nil => exact Nat.zero_le _
    | cons t ts => exact Nat.le_refl 2
abbrev tupS (xs : List Str) : PyData := .tuple (xs.map PyData.str)
theorem lay_tupS {xs : List Str} (h : ∀ x ∈ xs, PyData.strOk x = true) : (tupS xs).canLay0 = true := lay_strs xs h
theorem shp_tupS {xs : List Str} (h : ∀ x ∈ xs, PyData.strOk x = true) : SeqAt.shaped (tupS xs) = true := by
  unfold SeqAt.shaped
  rw [lay_tupS h, show (tupS xs).depth = 1 by show PyData.depthAll (xs.map PyData.str) + 1 = 1; rw [deep_strs]]
  rfl
abbrev conD (z : Int × Int) : PyData := .tuple [.tuple [], numD z]
theorem eqv_con (z : Int × Int) : PyData.eqv (conD z) (conD z) = true := PySem.SeqAt.eqv_refl _ rfl
abbrev celD (x : Str) : PyData := formN [(x, (1, 1))] (0, 1)
theorem lay_cel {x : Str} (h : PyData.strOk x = true) : (celD x).canLay0 = true := by
  show ((((PyData.strOk x && ((true && (true && true)) && true)) && true)) && ((true && (true && true)) && true)) = true
  rw [h]
  rfl
theorem shp_cel {x : Str} (h : PyData.strOk x = true) : SeqAt.shaped (celD x) = true := by
  unfold SeqAt.shaped
  rw [lay_cel h]
  rfl
/-- what is no form, and makes none with others -/
structure Bad (d : PyData) : Prop where
  t : termD d = false
  f : formD d = false
  r : isRat d = false
theorem bad_tup {d : PyData} (h : Bad d) : Bad (.tuple [d]) := ⟨rfl, rfl, rfl⟩
theorem bad_lst {d : PyData} : Bad (.list [d]) := ⟨rfl, rfl, rfl⟩
theorem bad_nil : Bad (.tuple []) := ⟨rfl, rfl, rfl⟩
theorem bad_head {d : PyData} (h : Bad d) : formD (.tuple [.tuple [d], rat 0 1]) = false := by
  show (isRat (rat 0 1) && (([d] : List PyData).all termD && _)) = false
  rw [show ([d] : List PyData).all termD = (termD d && true) from rfl, h.t, Bool.false_and, Bool.false_and, Bool.and_false]
theorem bad_tail {d : PyData} (h : Bad d) : formD (.tuple [.tuple [], d]) = false := by
  show (isRat d && _) = false
  rw [h.r, Bool.false_and]
theorem bad_odds : ∀ d ∈ ([.none, .bool true, .int 0, .str (Str.ofString ""), .str (Str.ofString "a"), .tuple [], .tuple [.tuple [], .int 0], .list [], .tuple [.tuple [], rat 0 1, .tuple []], .tuple [.int 5, rat 0 1], .tuple [.none, rat 0 1], .tuple [.str (Str.ofString "ab"), rat 0 1]] : List PyData), shortD d = true ∧ formD d = false := by
  intro d hd
  simp only [List.mem_cons, List.not_mem_nil, or_false] at hd
  rcases hd with rfl | rfl | rfl | rfl | rfl | rfl | rfl | rfl | rfl | rfl | rfl | rfl <;> first | exact ⟨rfl, rfl⟩ | (constructor <;> decide +kernel)
section
variable {P : Program} {w : World} {K : PySem.W.Frag} {mg : Str → Option Value} {base : Heap}
theorem ok_law (T : Bt mg) (Tt : Ut4 K mg) (GB : Kn P w K mg base CX0 "_law_box" 1 ["_law_script"] (spBox K)) (GN : Kn P w K mg base CX0 "_law_names" 3 ["_law_box_here", "_law_many"] spNames)
    (GD : Kn P w K mg base CX0 "_law_drawn_form" 4 ["_law_box_here", "_law_names_here"] (spDrawnF K)) (GI : Kn P w K mg base CX0 "is_form" 4 ["value"] (spDS K formD)) (GX : Kn P w K mg base CX0 "names_in" 1 ["form"] (spNamesIn K))
    (GT : Kn P w K mg base CX0 "_law_take" 2 ["_law_box_here", "_law_size"] spTake) (GE : Kn P w K mg base CX0 "_law_bent_form" 4 ["_law_box_here", "_law_form_here"] (spBentF K)) (GL : Kn P w K mg base CX0 "_law_is_form" 3 ["_law_value"] (spDS K formD))
    (GM : Kn P w K mg base CX0 "_law_number" 3 ["_law_box_here"] (spNum 6)) (GV : Kn P w K mg base CX0 "_law_given" 3 ["_law_box_here", "_law_number_here"] (spGiven K)) (GC : Kn P w K mg base CX0 "constant_form" 4 ["number"] (spConstF K))
    (GF : Kn P w K mg base CX0 "cell_form" 1 ["name"] (spCellF K)) {f : Addr} {fd : FuncData} (F : Fun K "law" "law" s_law f fd) : FnOk P w K mg base CX0 10 f fd ["_law_script"] (spLaw K) := by
  obtain ⟨f_l_box, fd_l_box, G_l_box, m_l_box, k_l_box, b_l_box⟩ := GB
  obtain ⟨f_l_names, fd_l_names, G_l_names, m_l_names, k_l_names, b_l_names⟩ := GN
  obtain ⟨f_l_drawn_form, fd_l_drawn_form, G_l_drawn_form, m_l_drawn_form, k_l_drawn_form, b_l_drawn_form⟩ := GD
  obtain ⟨f_is_form, fd_is_form, G_is_form, m_is_form, k_is_form, b_is_form⟩ := GI
  obtain ⟨f_names_in, fd_names_in, G_names_in, m_names_in, k_names_in, b_names_in⟩ := GX
  obtain ⟨f_l_take, fd_l_take, G_l_take, m_l_take, k_l_take, b_l_take⟩ := GT
  obtain ⟨f_l_bent_form, fd_l_bent_form, G_l_bent_form, m_l_bent_form, k_l_bent_form, b_l_bent_form⟩ := GE
  obtain ⟨f_l_is_form, fd_l_is_form, G_l_is_form, m_l_is_form, k_l_is_form, b_l_is_form⟩ := GL
  obtain ⟨f_l_number, fd_l_number, G_l_number, m_l_number, k_l_number, b_l_number⟩ := GM
  obtain ⟨f_l_given, fd_l_given, G_l_given, m_l_given, k_l_given, b_l_given⟩ := GV
  obtain ⟨f_constant_form, fd_constant_form, G_constant_form, m_constant_form, k_constant_form, b_constant_form⟩ := GC
  obtain ⟨f_cell_form, fd_cell_form, G_cell_form, m_cell_form, k_cell_form, b_cell_form⟩ := GF
  refine F.ok sc_law (k := 9) (fun vs H Q E h => ?_) (fun cdv A outer s H vs Q E hr h => ?_)
  · obtain ⟨a, ns, rfl, _⟩ := h
    rfl
  · obtain ⟨a, ns, rfl, hS, hl, q⟩ := h
    refine ⟨_, (pss_cons (ps_set (i := 1) sc_law.nd rfl (Or.inl rfl) (pe_call G_l_box (hr.mono (by omega)) rfl m_l_box k_l_box b_l_box .nil pass0 (pa_cons (pv 0) pa_nil)))
      (pss_cons (ps_set (i := 2) sc_law.nd rfl (Or.inl rfl) (pe_call G_l_names (hr.mono (by omega)) rfl m_l_names k_l_names b_l_names .nil pass0 (pa_cons (pv 1) (pa_cons pe_int pa_nil))))
      (pss_cons (ps_for PassesOwn.never rfl (pi_range1 rfl T.n_range (pa_cons pe_int pa_nil)) (pg_name (i := 3) sc_law.nd rfl (Or.inl rfl))
        (pss_cons (ps_set (i := 4) sc_law.nd rfl (Or.inl rfl) (pe_call G_l_drawn_form (hr.mono (by omega)) rfl m_l_drawn_form k_l_drawn_form b_l_drawn_form .nil pass0 (pa_cons (pv 1) (pa_cons (pv 2) pa_nil))))
      (pss_cons (ps_if (PW.pt (pw_or (pt_cmpR op_notBl (pe_call G_is_form (hr.mono (by omega)) rfl m_is_form k_is_form b_is_form .nil pass0 (pa_cons (pv 4) pa_nil)) pe_bl (nomark _)) (pw_or1 (pt_cmpR (op_neD hr.units) (pe_call G_names_in (hr.mono (by omega)) rfl m_names_in k_names_in b_names_in .nil pass0 (pa_cons (pv 4) pa_nil)) (pe_callTy call_tuple_of (by rfl) T.n_tuple (by decide +kernel) (pa_cons (pe_lc (own := [("_law_name", 8), ("_law_by", 11)]) rfl sc_law.nd (pi_tup (pe_ix ix_tup (pv 4) pe_int (fun _ _ => rfl))) (blkOk_by (N := ["_law_script", "_law_box_here", "_law_names_here", "_law_turn", "_law_form_here", "_law_bent", "_law_k", "_law_number_here", "_law_name", "_law_odd", "_law_deep", "_law_by", "_law_value"]) (sc := defScope s_law) (by decide +kernel)) (fun _ _ _ _ _ => (pg_tupK (K := K) (n := 2) rfl (by rfl) (pgs_cons (pg_name (i := 8) sc_law.nd rfl (Or.inl rfl)) (pgs_cons (pg_name (i := 11) sc_law.nd rfl (Or.inl rfl)) pgs_nil)) (by rfl) (by rfl))) (fun _ _ _ _ _ => pts_nil) (fun _ _ _ _ _ => (pv 8))) pa_nil)) (nomark _))))) (pss_one (ps_ret pe_bl)) pss_nil)
      (pss_cons (ps_set (i := 5) sc_law.nd rfl (Or.inl rfl) (pv 4))
      (pss_cons (ps_for PassesOwn.never rfl (pi_range1 rfl T.n_range (pa_cons (pe_op op_add pe_int (pe_call G_l_take (hr.mono (by omega)) rfl m_l_take k_l_take b_l_take .nil pass0 (pa_cons (pv 1) (pa_cons pe_int pa_nil)))) pa_nil)) (pg_name (i := 6) sc_law.nd rfl (Or.inl rfl))
        (pss_one (ps_set (i := 5) sc_law.nd rfl (Or.inl rfl) (pe_call G_l_bent_form (hr.mono (by omega)) rfl m_l_bent_form k_l_bent_form b_l_bent_form .nil pass0 (pa_cons (pv 1) (pa_cons (pv 5) pa_nil))))))
      (pss_cons (ps_if (PW.pt (pw_or (pt_not (pt_val (pe_callB (cr_isi (K := K) rfl) (by rfl) T.n_isinstance (by decide +kernel) (pa_cons (pe_call G_is_form (hr.mono (by omega)) rfl m_is_form k_is_form b_is_form .nil pass0 (pa_cons (pv 5) pa_nil)) (pa_cons (pe_bltn (v := .ty "bool") (by rfl) T.n_bool (by decide +kernel) rfl) pa_nil))))) (pw_or1 (pt_cmpR op_ne (pe_call G_is_form (hr.mono (by omega)) rfl m_is_form k_is_form b_is_form .nil pass0 (pa_cons (pv 5) pa_nil)) (pe_call G_l_is_form (hr.mono (by omega)) rfl m_l_is_form k_l_is_form b_l_is_form .nil pass0 (pa_cons (pv 5) pa_nil)) (nomark _))))) (pss_one (ps_ret pe_bl)) pss_nil)
      (pss_cons (ps_set (i := 7) sc_law.nd rfl (Or.inl rfl) (pe_call G_l_number (hr.mono (by omega)) rfl m_l_number k_l_number b_l_number .nil pass0 (pa_cons (pv 1) pa_nil)))
      (pss_cons (ps_if (pt_cmpR (op_neD hr.units) (pe_call G_constant_form (hr.mono (by omega)) rfl m_constant_form k_constant_form b_constant_form .nil pass0 (pa_cons (pe_call G_l_given (hr.mono (by omega)) rfl m_l_given k_l_given b_l_given .nil pass0 (pa_cons (pv 1) (pa_cons (pv 7) pa_nil))) pa_nil)) (pe_tup (pa_cons (pe_tup pa_nil) (pa_cons (pv 7) pa_nil))) (nomark _)) (pss_one (ps_ret pe_bl)) pss_nil)
      (pss_cons (ps_set (i := 8) sc_law.nd rfl (Or.inl rfl) (pe_ix ix_list (pv 2) (pe_call G_l_take (hr.mono (by omega)) rfl m_l_take k_l_take b_l_take .nil pass0 (pa_cons (pv 1) (pa_cons pe_int pa_nil))) (fun _ _ => rfl)))
      (pss_one (ps_if (PW.pt (pw_or (pt_cmpR (op_neD hr.units) (pe_call G_cell_form (hr.mono (by omega)) rfl m_cell_form k_cell_form b_cell_form .nil pass0 (pa_cons (pv 8) pa_nil)) (pe_tup (pa_cons (pe_tup (pa_cons (pe_tup (pa_cons (pv 8) (pa_cons (pe_tup (pa_cons pe_int (pa_cons pe_int pa_nil))) pa_nil))) pa_nil)) (pa_cons (pe_tup (pa_cons pe_int (pa_cons pe_int pa_nil))) pa_nil))) (nomark _)) (pw_or1 (pt_not (pt_val (pe_call G_is_form (hr.mono (by omega)) rfl m_is_form k_is_form b_is_form .nil pass0 (pa_cons (pe_call G_cell_form (hr.mono (by omega)) rfl m_cell_form k_cell_form b_cell_form .nil pass0 (pa_cons (pv 8) pa_nil)) pa_nil))))))) (pss_one (ps_ret pe_bl)) pss_nil)))))))))))
      (pss_cons (ps_set (i := 9) sc_law.nd rfl (Or.inl rfl) (pe_lst (pa_cons pe_non (pa_cons pe_bl (pa_cons pe_int (pa_cons pe_str (pa_cons pe_str (pa_cons (pe_tup pa_nil) (pa_cons (pe_tup (pa_cons (pe_tup pa_nil) (pa_cons pe_int pa_nil))) (pa_cons (pe_lst pa_nil) (pa_cons (pe_tup (pa_cons (pe_tup pa_nil) (pa_cons (pe_tup (pa_cons pe_int (pa_cons pe_int pa_nil))) (pa_cons (pe_tup pa_nil) pa_nil)))) (pa_cons (pe_tup (pa_cons pe_int (pa_cons (pe_tup (pa_cons pe_int (pa_cons pe_int pa_nil))) pa_nil))) (pa_cons (pe_tup (pa_cons pe_non (pa_cons (pe_tup (pa_cons pe_int (pa_cons pe_int pa_nil))) pa_nil))) (pa_cons (pe_tup (pa_cons pe_str (pa_cons (pe_tup (pa_cons pe_int (pa_cons pe_int pa_nil))) pa_nil))) pa_nil))))))))))))))
      (pss_cons (ps_set (i := 10) sc_law.nd rfl (Or.inl rfl) (pe_tup pa_nil))
      (pss_cons (ps_for PassesOwn.never rfl (pi_range1 rfl T.n_range (pa_cons pe_int pa_nil)) (pg_name (i := 6) sc_law.nd rfl (Or.inl rfl))
        (pss_one (ps_set (i := 10) sc_law.nd rfl (Or.inl rfl) (pe_ix ix_list (pe_lst (pa_cons (pe_tup (pa_cons (pv 10) pa_nil)) (pa_cons (pe_lst (pa_cons (pv 10) pa_nil)) pa_nil))) (pe_call G_l_take (hr.mono (by omega)) rfl m_l_take k_l_take b_l_take .nil pass0 (pa_cons (pv 1) (pa_cons pe_int pa_nil))) (fun _ _ => rfl)))))
      (pss_one (ps_ret (pe_not (pe_callB (cr_any rfl) (by rfl) T.n_any (by decide +kernel) (pa_cons (pe_lc (own := [("_law_value", 12)]) rfl sc_law.nd (pi_list (pe_op op_cat (pv 9) (pe_lst (pa_cons (pv 10) (pa_cons (pe_tup (pa_cons (pv 10) (pa_cons (pe_tup (pa_cons pe_int (pa_cons pe_int pa_nil))) pa_nil))) (pa_cons (pe_tup (pa_cons (pe_tup pa_nil) (pa_cons (pv 10) pa_nil))) pa_nil)))))) (blkOk_by (N := ["_law_script", "_law_box_here", "_law_names_here", "_law_turn", "_law_form_here", "_law_bent", "_law_k", "_law_number_here", "_law_name", "_law_odd", "_law_deep", "_law_by", "_law_value"]) (sc := defScope s_law) (by decide +kernel)) (fun _ _ _ _ _ => (pg_name (i := 12) sc_law.nd rfl (Or.inl rfl))) (fun _ _ _ _ _ => pts_nil) (fun _ _ _ _ _ => (pe_call G_is_form (hr.mono (by omega)) rfl m_is_form k_is_form b_is_form .nil pass0 (pa_cons (pv 12) pa_nil)))) pa_nil))))))))))), ?_⟩
    refine ⟨_, rfl, a, ns, rfl, hS, hl, fun b g c H0 B0 _ _ _ _ => ?_⟩
    refine ⟨_, rfl, b, g, c, _, rfl, B0, by decide, fun L nm H1 ln nd hnm hL nL B1 b1 => ?_⟩
    obtain ⟨lb, lg, _⟩ := B0.ne nL
    refine ⟨10, rfl, by decide, by decide, ?_⟩
    refine for_range (lo := 0) (n := 10) (fun i σ H' => ∃ o3 o4 o5 o6 o7 o8 o9 o10 o11 o12, σ = [some (.ref a), some (.ref b), some (.ref L), o3, o4, o5, o6, o7, o8, o9, o10, o11, o12] ∧ Box H' b g c (100 + i * 200) ∧ H' L = some (.lst (nm.map V.str))) ⟨_, _, _, _, _, _, _, _, _, _, rfl, B1.mono (by omega), hL⟩ ?_ ?_
    · rintro i σ H2 hi ⟨o3, o4, o5, o6, o7, o8, o9, o10, o11, o12, rfl, B2, hL2⟩
      refine ⟨_, rfl, _, rfl, b, g, c, L, _, nm, rfl, B2, by omega, hL2, lb, lg, by omega, nd, hnm, fun r ts z H3 gd hr3 B3 b3 => ?_⟩
      have hL3 := b3 L _ hL2 lb lg
      have sh := short_good gd
      -- is_form(form) is not True
      refine ⟨_, rfl, r, _, rfl, dp_same (mk_sub b g H3) _ _ hr3, sh, fun H4 s4 => ?_⟩
      rw [formD_good gd]
      refine ⟨true, true, rfl, rfl, _, rfl, ?_⟩
      refine iteEqv (decide_eq_true rfl) ?_
      have hr4 : Dp K H4 r (.tuple [.tuple (ts.map fun t => termN t.1 t.2), numD z]) := dp_same s4 _ _ (dp_same (mk_sub b g H3) _ _ hr3)
      have strk : ∀ x ∈ ts.map (·.1), PyData.strOk x = true := fun x hx => by
        obtain ⟨t, ht, rfl⟩ := List.mem_map.mp hx
        exact name_ok (gd.terms t ht).1
      have few := gd.few
      -- names_in(form) != tuple([..])
      refine ⟨_, rfl, r, ts, z, rfl, hr4, by omega, fun rn H5 s5 hrn => ?_⟩
      have hr5 := dp_same s5 _ _ hr4
      cases hr5 with
      | @tup ar xs _ hs ha =>
        cases ha with
        | @cons x1 _ _ _ h1 ha =>
          cases h1 with
          | @tup a1 ys _ hs1 ha1 =>
            have hl1 := dps_len ha1
            rw [List.length_map] at hl1
            refine ⟨_, rfl, ar, _, _, .ref a1, rfl, rfl, hs, at_of (j := 0) rfl rfl, a1, rfl, ⟨_, hs1⟩, fun D hD => ?_⟩
            refine lc_tup (K := K) (a := a1) (xs := ys) (fun i H' => Same H5 H' ∧ H' D = some (.lst (((ts.take i).map (·.1)).map V.str))) ⟨same_new hD _, upd_same⟩ (fun i H' _ h => same_seqT h.1 hs1) ?_ ?_
            · rintro i x H6 hx ⟨s6, hacc2⟩
              obtain ⟨dt, hdt, hdx⟩ := dps_get ha1 hx
              rw [List.getElem?_map] at hdt
              obtain ⟨t, ht, rfl⟩ : ∃ t, ts[i]? = some t ∧ termN t.1 t.2 = dt := by
                cases z : ts[i]? with
                | none => rw [z] at hdt; cases hdt
                | some t => rw [z] at hdt; exact ⟨t, rfl, Option.some.inj hdt⟩
              have hdx3 : Dp K H6 x (.tuple [.str t.1, numD t.2]) := dp_same s6 _ _ hdx
              cases hdx3 with
              | @tup at_ zs _ hsz haz =>
                cases haz with
                | @cons n1 _ _ _ hn haz =>
                  cases haz with
                  | @cons r1 _ _ _ hr1 haz =>
                    cases haz
                    cases hn
                    refine ⟨_, _, rfl, hsz, rfl, _, _, rfl, _, _, rfl, rfl, rfl, _, rfl, ?_⟩
                    refine ⟨_, hacc2, ?_, same_upd s6 hD, ?_⟩
                    · rw [List.length_map, List.length_map, List.length_take]
                      exact small1000 (by omega)
                    · rw [upd_same, take_more ht, List.map_append, List.map_append]
                      rfl
            · rintro H6 ⟨s6, hacc2⟩
              rw [hl1, List.take_length] at hacc2
              refine ⟨D, _, rfl, .inl ⟨SqL.of hacc2, fun p np => ?_⟩⟩
              have s56 := s6.trans (same_new np (.tup ((ts.map (·.1)).map V.str)))
              refine ⟨tupS (ts.map fun t : Str × (Int × Int) => t.1), tupS (ts.map fun t : Str × (Int × Int) => t.1), dp_same s56 _ _ hrn, .tup (SqT.of upd_same) (dps_strs _), shp_tupS strk, shp_tupS strk, _, rfl, ?_⟩
              refine iteEqv (PySem.SeqAt.eqv_refl _ (lay_tupS strk)) ?_
              have s36 := s4.trans (s5.trans s56)
              have hL6 := s36 _ _ hL3
              have B6 := B3.same s36
              have ok6 : Okv K b g (upd H6 p (.tup ((ts.map (·.1)).map V.str))) 700 (.ref ar) (formN ts z) := ⟨dp_up hr3 s36, sh, small_good gd⟩
              generalize upd H6 p (.tup ((ts.map (·.1)).map V.str)) = H7 at hL6 B6 ok6
              clear hrn hs hs1 ha1 hr4 hr3 hacc2
              -- the bent form
              refine ⟨_, rfl, _, rfl, b, g, c, _, 2, rfl, B6, by omega, by decide, pow8000' 2 2 (by decide) (by decide), fun x H8 x0 x1 B8 b8 => ⟨_, _, rfl, rfl, ?_⟩⟩
              have hL8 := b8 L _ hL6 lb lg
              have p62 : (2 : Int) ^ 62 = 4611686018427387904 := by decide
              refine ⟨1 + x, rfl, by omega, by omega, ?_⟩
              have tg := top_good gd
              refine for_range (lo := 0) (n := (1 + x).toNat) (fun j σ H' => ∃ v d o6, σ = [some (.ref a), some (.ref b), some (.ref L), some (.int (0 + (i : Int))), some (.ref ar), some v, o6, o7, o8, o9, o10, o11, o12] ∧ Okv K b g H' (700 + j) v d ∧ (j ≤ 1 → topLen d ≤ 20) ∧ (j = 0 → topLen d ≤ 19 ∧ innLen d ≤ 20) ∧ Box H' b g c (100 + i * 200 + 70 + 25 * j) ∧ H' L = some (.lst (nm.map V.str)))
                ⟨_, _, _, rfl, ok6.draw b8, fun _ => by omega, fun _ => ⟨by omega, by omega⟩, B8.mono (by omega), hL8⟩ ?_ ?_
              · rintro j σ H9 hj ⟨v, d, o6, rfl, ok9, tp, tp0, B9, hL9⟩
                refine ⟨_, rfl, _, rfl, b, g, c, _, 700 + j, v, d, rfl, B9, by omega, by omega, by omega, ok9, tp (by omega), fun v' d' H10 ok10 tl B10 b10 => ?_⟩
                exact ⟨v', d', _, rfl, ok10, fun h => tl (tp0 (by omega)).1 (tp0 (by omega)).2, fun h => absurd h (by omega), B10.mono (by omega), b10 L _ hL9 lb lg⟩
              · rintro σ H9 ⟨v, d, o6, rfl, ⟨okd, oks, okm⟩, _, _, B9, hL9⟩
                have hv9 := dp_same (mk_sub b g H9) _ _ okd
                have B9' : Box H9 b g c (100 + i * 200 + 130) := B9.mono (by omega)
                -- is_form(bent)
                refine ⟨_, rfl, v, d, rfl, hv9, oks, fun H10 s10 => ?_⟩
                refine ⟨_, _, _, _, _, rfl, .ty _, dp_ty (.bl _ : Dp K H10 (.bl (formD d)) (.bool (formD d))), kit_ty (kb_bool (.bool (formD d))), _, rfl, ?_⟩
                refine iteEqv rfl ?_
                refine ⟨_, rfl, v, d, rfl, dp_same s10 _ _ hv9, oks, fun H11 s11 => ⟨_, rfl, v, d, rfl, dp_same (s10.trans s11) _ _ hv9, oks, fun H12 s12 => ⟨rfl, _, rfl, ?_⟩⟩⟩
                refine iteEqv (decide_eq_true rfl) ?_
                have s912 := s10.trans (s11.trans s12)
                -- the number
                refine ⟨_, rfl, b, g, c, _, rfl, B9'.same s912, by omega, fun pn zn H13 rz sz hpn B13 b13 => ?_⟩
                have hL13 := b13 L _ (s912 _ _ hL9) lb lg
                refine ⟨_, rfl, _, rfl, b, g, c, pn, _, zn, rfl, B13, by omega, hpn, rz, fun u H14 hu B14 b14 => ⟨u, zn, rfl, hu.same (mk_sub b g H14), fun rc H15 s15 hrc => ?_⟩⟩
                have hpn14 := b14.tup B13 hpn
                refine ⟨(by show 0 ≤ sizeLine; decide), fun p1 np1 => ⟨_, rfl, (by show 2 ≤ sizeLine; decide), fun p2 np2 => ?_⟩⟩
                have t1 := same_new np1 (.tup [])
                have t2 := same_new np2 (.tup [.ref p1, .ref pn])
                refine ⟨conD zn, conD zn, dp_same (t1.trans t2) _ _ hrc, .tup (SqT.of upd_same) (.cons (.tup (SqT.of (t2 _ _ upd_same)) .nil) (.cons (dp_rat (t2 _ _ (t1 _ _ (s15 _ _ hpn14)))) .nil)), rfl, rfl, _, rfl, ?_⟩
                refine iteEqv (eqv_con zn) ?_
                have s142 := s15.trans (t1.trans t2)
                have hL15 := s142 _ _ (b14 L _ hL13 lb lg)
                have B15 := B14.same s142
                generalize upd (upd H15 p1 (.tup [])) p2 (.tup [.ref p1, .ref pn]) = H16 at hL15 B15
                -- the name
                refine ⟨_, rfl, _, rfl, b, g, c, _, 6, rfl, B15, by omega, by decide, pow8000' 6 4 (by decide) (by decide), fun y H17 y0 y1 B17 b17 => ?_⟩
                have hL17 := b17 L _ hL15 lb lg
                obtain ⟨k, rfl⟩ : ∃ k : Nat, y = (k : Int) := ⟨y.toNat, by omega⟩
                have hk : k < nm.length := by omega
                refine ⟨L, _, _, .str nm[k], rfl, rfl, SqL.of hL17, atI_nat (by rw [List.getElem?_map, List.getElem?_eq_getElem hk]; rfl), ?_⟩
                have hnk := hnm nm[k] (List.getElem_mem hk)
                have sk := name_ok hnk
                refine ⟨_, rfl, nm[k], rfl, fun rc H18 s18 hrc => ?_⟩
                refine ⟨_, rfl, (by show 2 ≤ sizeLine; decide), fun p1 np1 => ⟨(by show 2 ≤ sizeLine; decide), fun p2 np2 => ⟨(by show 1 ≤ sizeLine; decide), fun p3 np3 => ⟨(by show 2 ≤ sizeLine; decide), fun p4 np4 => ⟨(by show 2 ≤ sizeLine; decide), fun p5 np5 => ?_⟩⟩⟩⟩⟩
                have u1 := same_new np1 (.tup [.int 1, .int 1])
                have u2 := same_new np2 (.tup [.str nm[k], .ref p1])
                have u3 := same_new np3 (.tup [.ref p2])
                have u4 := same_new np4 (.tup [.int 0, .int 1])
                have u5 := same_new np5 (.tup [.ref p3, .ref p4])
                have u15 := u1.trans (u2.trans (u3.trans (u4.trans u5)))
                refine ⟨celD nm[k], celD nm[k], dp_same u15 _ _ hrc, .tup (SqT.of upd_same) (.cons (.tup (SqT.of (u5 _ _ (u4 _ _ upd_same))) (.cons (.tup (SqT.of (u5 _ _ (u4 _ _ (u3 _ _ upd_same)))) (.cons (.str _) (.cons (dp_rat (u5 _ _ (u4 _ _ (u3 _ _ (u2 _ _ upd_same))))) .nil))) .nil)) (.cons (dp_rat (u5 _ _ upd_same)) .nil)), shp_cel sk, shp_cel sk, _, rfl, ?_⟩
                refine iteEqv (PySem.SeqAt.eqv_refl _ (lay_cel sk)) ?_
                refine ⟨_, rfl, nm[k], rfl, fun re H19 s19 hre => ⟨re, celD nm[k], rfl, hre, short_good (one_good hnk), fun H20 s20 => ⟨_, rfl, ?_⟩⟩⟩
                refine iteEqv (formD_good (one_good hnk)) ?_
                have sx := s18.trans (u15.trans (s19.trans s20))
                exact ⟨_, _, _, _, _, _, _, _, _, _, rfl, (B17.same sx).mono (by omega), sx _ _ hL17⟩
    · rintro σ H2 ⟨o3, o4, o5, o6, o7, o8, o9, o10, o11, o12, rfl, B2, hL2⟩
      have X0 := B2
      refine ⟨(by show 0 ≤ sizeLine; decide), fun p1 np1 => ?_⟩
      have t1 := same_new np1 (.tup [])
      have k1 := dp_newT (K := K) X0 .nil np1
      have X1 := X0.same t1
      generalize upd H2 p1 (.tup []) = G1 at t1 X1 k1  ⊢
      refine ⟨(by show 0 ≤ sizeLine; decide), fun p2 np2 => ?_⟩
      have t2 := same_new np2 (.tup [])
      have k2 := dp_newT (K := K) X1 .nil np2
      have X2 := X1.same t2
      replace k1 := dp_up k1 t2
      generalize upd G1 p2 (.tup []) = G2 at t2 X2 k2 k1 ⊢
      refine ⟨(by show 2 ≤ sizeLine; decide), fun p3 np3 => ?_⟩
      have t3 := same_new np3 (.tup [V.ref p2, V.int 0])
      have k3 := dp_newT (K := K) X2 (.cons k2 (.cons (.int 0) .nil)) np3
      have X3 := X2.same t3
      replace k1 := dp_up k1 t3
      generalize upd G2 p3 (.tup [V.ref p2, V.int 0]) = G3 at t3 X3 k3 k1 ⊢
      refine ⟨(by show 0 ≤ sizeLine; decide), fun p4 np4 => ?_⟩
      have t4 := same_new np4 (.lst [])
      have k4 := dp_newL (K := K) X3 .nil np4
      have X4 := X3.same t4
      replace k1 := dp_up k1 t4
      replace k3 := dp_up k3 t4
      generalize upd G3 p4 (.lst []) = G4 at t4 X4 k4 k1 k3 ⊢
      refine ⟨(by show 0 ≤ sizeLine; decide), fun p5 np5 => ?_⟩
      have t5 := same_new np5 (.tup [])
      have k5 := dp_newT (K := K) X4 .nil np5
      have X5 := X4.same t5
      replace k1 := dp_up k1 t5
      replace k3 := dp_up k3 t5
      replace k4 := dp_up k4 t5
      generalize upd G4 p5 (.tup []) = G5 at t5 X5 k5 k1 k3 k4 ⊢
      refine ⟨(by show 2 ≤ sizeLine; decide), fun p6 np6 => ?_⟩
      have t6 := same_new np6 (.tup [V.int 0, V.int 1])
      have k6 := dp_newT (K := K) X5 (.cons (.int 0) (.cons (.int 1) .nil)) np6
      have X6 := X5.same t6
      replace k1 := dp_up k1 t6
      replace k3 := dp_up k3 t6
      replace k4 := dp_up k4 t6
      replace k5 := dp_up k5 t6
      generalize upd G5 p6 (.tup [V.int 0, V.int 1]) = G6 at t6 X6 k6 k1 k3 k4 k5 ⊢
      refine ⟨(by show 0 ≤ sizeLine; decide), fun p7 np7 => ?_⟩
      have t7 := same_new np7 (.tup [])
      have k7 := dp_newT (K := K) X6 .nil np7
      have X7 := X6.same t7
      replace k1 := dp_up k1 t7
      replace k3 := dp_up k3 t7
      replace k4 := dp_up k4 t7
      replace k5 := dp_up k5 t7
      replace k6 := dp_up k6 t7
      generalize upd G6 p7 (.tup []) = G7 at t7 X7 k7 k1 k3 k4 k5 k6 ⊢
      refine ⟨(by show 3 ≤ sizeLine; decide), fun p8 np8 => ?_⟩
      have t8 := same_new np8 (.tup [V.ref p5, V.ref p6, V.ref p7])
      have k8 := dp_newT (K := K) X7 (.cons k5 (.cons k6 (.cons k7 .nil))) np8
      have X8 := X7.same t8
      replace k1 := dp_up k1 t8
      replace k3 := dp_up k3 t8
      replace k4 := dp_up k4 t8
      generalize upd G7 p8 (.tup [V.ref p5, V.ref p6, V.ref p7]) = G8 at t8 X8 k8 k1 k3 k4 ⊢
      refine ⟨(by show 2 ≤ sizeLine; decide), fun p9 np9 => ?_⟩
      have t9 := same_new np9 (.tup [V.int 0, V.int 1])
      have k9 := dp_newT (K := K) X8 (.cons (.int 0) (.cons (.int 1) .nil)) np9
      have X9 := X8.same t9
      replace k1 := dp_up k1 t9
      replace k3 := dp_up k3 t9
      replace k4 := dp_up k4 t9
      replace k8 := dp_up k8 t9
      generalize upd G8 p9 (.tup [V.int 0, V.int 1]) = G9 at t9 X9 k9 k1 k3 k4 k8 ⊢
      refine ⟨(by show 2 ≤ sizeLine; decide), fun p10 np10 => ?_⟩
      have t10 := same_new np10 (.tup [V.int 5, V.ref p9])
      have k10 := dp_newT (K := K) X9 (.cons (.int 5) (.cons k9 .nil)) np10
      have X10 := X9.same t10
      replace k1 := dp_up k1 t10
      replace k3 := dp_up k3 t10
      replace k4 := dp_up k4 t10
      replace k8 := dp_up k8 t10
      generalize upd G9 p10 (.tup [V.int 5, V.ref p9]) = G10 at t10 X10 k10 k1 k3 k4 k8 ⊢
      refine ⟨(by show 2 ≤ sizeLine; decide), fun p11 np11 => ?_⟩
      have t11 := same_new np11 (.tup [V.int 0, V.int 1])
      have k11 := dp_newT (K := K) X10 (.cons (.int 0) (.cons (.int 1) .nil)) np11
      have X11 := X10.same t11
      replace k1 := dp_up k1 t11
      replace k3 := dp_up k3 t11
      replace k4 := dp_up k4 t11
      replace k8 := dp_up k8 t11
      replace k10 := dp_up k10 t11
      generalize upd G10 p11 (.tup [V.int 0, V.int 1]) = G11 at t11 X11 k11 k1 k3 k4 k8 k10 ⊢
      refine ⟨(by show 2 ≤ sizeLine; decide), fun p12 np12 => ?_⟩
      have t12 := same_new np12 (.tup [V.non, V.ref p11])
      have k12 := dp_newT (K := K) X11 (.cons .non (.cons k11 .nil)) np12
      have X12 := X11.same t12
      replace k1 := dp_up k1 t12
      replace k3 := dp_up k3 t12
      replace k4 := dp_up k4 t12
      replace k8 := dp_up k8 t12
      replace k10 := dp_up k10 t12
      generalize upd G11 p12 (.tup [V.non, V.ref p11]) = G12 at t12 X12 k12 k1 k3 k4 k8 k10 ⊢
      refine ⟨(by show 2 ≤ sizeLine; decide), fun p13 np13 => ?_⟩
      have t13 := same_new np13 (.tup [V.int 0, V.int 1])
      have k13 := dp_newT (K := K) X12 (.cons (.int 0) (.cons (.int 1) .nil)) np13
      have X13 := X12.same t13
      replace k1 := dp_up k1 t13
      replace k3 := dp_up k3 t13
      replace k4 := dp_up k4 t13
      replace k8 := dp_up k8 t13
      replace k10 := dp_up k10 t13
      replace k12 := dp_up k12 t13
      generalize upd G12 p13 (.tup [V.int 0, V.int 1]) = G13 at t13 X13 k13 k1 k3 k4 k8 k10 k12 ⊢
      refine ⟨(by show 2 ≤ sizeLine; decide), fun p14 np14 => ?_⟩
      have t14 := same_new np14 (.tup [V.str "ab", V.ref p13])
      have k14 := dp_newT (K := K) X13 (.cons (.str (Str.ofString "ab")) (.cons k13 .nil)) np14
      have X14 := X13.same t14
      replace k1 := dp_up k1 t14
      replace k3 := dp_up k3 t14
      replace k4 := dp_up k4 t14
      replace k8 := dp_up k8 t14
      replace k10 := dp_up k10 t14
      replace k12 := dp_up k12 t14
      generalize upd G13 p14 (.tup [V.str "ab", V.ref p13]) = G14 at t14 X14 k14 k1 k3 k4 k8 k10 k12 ⊢
      have badO : ∀ d ∈ ([.none, .bool true, .int 0, .str (Str.ofString ""), .str (Str.ofString "a"), .tuple [], .tuple [.tuple [], .int 0], .list [], .tuple [.tuple [], rat 0 1, .tuple []], .tuple [.int 5, rat 0 1], .tuple [.none, rat 0 1], .tuple [.str (Str.ofString "ab"), rat 0 1]] : List PyData), shortD d = true ∧ formD d = false := bad_odds
      have hall : DpAll K (mk b g G14) [V.non, V.bl true, V.int 0, V.str (Str.ofString ""), V.str (Str.ofString "a"), V.ref p1, V.ref p3, V.ref p4, V.ref p8, V.ref p10, V.ref p12, V.ref p14] [.none, .bool true, .int 0, .str (Str.ofString ""), .str (Str.ofString "a"), .tuple [], .tuple [.tuple [], .int 0], .list [], .tuple [.tuple [], rat 0 1, .tuple []], .tuple [.int 5, rat 0 1], .tuple [.none, rat 0 1], .tuple [.str (Str.ofString "ab"), rat 0 1]] :=
        .cons .non (.cons (.bl _) (.cons (.int _) (.cons (.str _) (.cons (.str _) (.cons k1 (.cons k3 (.cons k4 (.cons k8 (.cons k10 (.cons k12 (.cons k14 .nil)))))))))))
      refine ⟨(by show 12 ≤ sizeLine; decide), fun p15 np15 => ?_⟩
      obtain ⟨xb, xg, _⟩ := X14.ne np15
      have t15 := same_new np15 (.lst [V.non, V.bl true, V.int 0, V.str (Str.ofString ""), V.str (Str.ofString "a"), V.ref p1, V.ref p3, V.ref p4, V.ref p8, V.ref p10, V.ref p12, V.ref p14])
      have X15 := X14.same t15
      have key : ∃ (odds : List V) (dodd : List PyData), (upd G14 p15 (.lst [V.non, V.bl true, V.int 0, V.str (Str.ofString ""), V.str (Str.ofString "a"), V.ref p1, V.ref p3, V.ref p4, V.ref p8, V.ref p10, V.ref p12, V.ref p14])) p15 = some (.lst odds) ∧ DpAll K (mk b g (upd G14 p15 (.lst [V.non, V.bl true, V.int 0, V.str (Str.ofString ""), V.str (Str.ofString "a"), V.ref p1, V.ref p3, V.ref p4, V.ref p8, V.ref p10, V.ref p12, V.ref p14]))) odds dodd ∧ odds.length = 12 ∧ ∀ d ∈ dodd, shortD d = true ∧ formD d = false :=
        ⟨_, _, upd_same, dps_same (mk_but (But.of t15)) _ _ hall, rfl, badO⟩
      obtain ⟨odds, dodd, h15, hall15, lenO, badO⟩ := key
      refine ⟨(by show 0 ≤ sizeLine; decide), fun p16 np16 => ?_⟩
      have t16 := same_new np16 (.tup [])
      have k16 := dp_newT (K := K) X15 .nil np16
      refine ⟨18, rfl, by decide, by decide, ?_⟩
      refine for_range (lo := 0) (n := 18) (fun j σ H' => ∃ v d o6, σ = [some (.ref a), some (.ref b), some (.ref L), o3, o4, o5, o6, o7, o8, some (.ref p15), some v, o11, o12] ∧ Dp K (mk b g H') v d ∧ shortD d = true ∧ Bad d ∧ (1 ≤ j → formD (.tuple [d, rat 0 1]) = false) ∧ Box H' b g c (3000 + j) ∧ H' p15 = some (.lst odds) ∧ DpAll K (mk b g H') odds dodd)
        ⟨_, _, _, rfl, k16, rfl, bad_nil, fun h => absurd h (by decide), (X15.same t16).mono (by omega), t16 _ _ h15, dps_same (mk_but (But.of t16)) _ _ hall15⟩ ?_ ?_
      · rintro j σ H3 hj ⟨v, d, o6, rfl, hv, sv, bv, _, B3, h3, ha3⟩
        refine ⟨_, rfl, (by show 1 ≤ sizeLine; decide), fun q1 nq1 => ⟨_, rfl, (by show 1 ≤ sizeLine; decide), fun q2 nq2 => ?_⟩⟩
        have u1 := same_new nq1 (.tup [v])
        have u2 := same_new nq2 (.lst [v])
        have d1 := dp_newT (K := K) B3 (.cons hv .nil) nq1
        have B4 := B3.same u1
        have d2 := dp_newL (K := K) B4 (.cons (dp_up hv u1) .nil) nq2
        replace d1 := dp_up d1 u2
        have B5 := B4.same u2
        have h5 := u2 _ _ (u1 _ _ h3)
        have ha5 := dps_same (mk_but (But.of (u1.trans u2))) _ _ ha3
        generalize upd (upd H3 q1 (.tup [v])) q2 (.lst [v]) = H5 at d1 d2 B5 h5 ha5 ⊢
        refine ⟨(by show 2 ≤ sizeLine; decide), fun p20 np20 => ⟨_, rfl, b, g, c, _, 2, rfl, B5.same (same_new np20 _), (by omega), (by decide), (by decide), fun r20 H20 r020 r120 B20 bt20 => ?_⟩⟩
        have hp20 := But.new B5 np20 bt20
        have bu20 := But.after np20 bt20
        obtain ⟨v20, hv20, hat20⟩ := at_pick hp20 r020 r120 rfl
        refine ⟨p20, _, r20, v20, rfl, rfl, SqL.of hp20, hat20, ?_⟩
        have h20 := bu20 p15 _ h5 xb xg
        have ha20 := dps_same (mk_but bu20) _ _ ha5
        simp only [List.mem_cons, List.not_mem_nil, or_false] at hv20
        have s1 : (true && (shortD d && true)) = true := by rw [sv]; rfl
        rcases hv20 with e | e
        · exact ⟨_, .tuple [d], _, rfl, e ▸ dp_dr d1 bu20, s1, bad_tup bv, fun _ => bad_head bv, B20.mono (by omega), h20, ha20⟩
        · exact ⟨_, .list [d], _, rfl, e ▸ dp_dr d2 bu20, s1, bad_lst, fun _ => rfl, B20.mono (by omega), h20, ha20⟩
      · rintro σ H3 ⟨v, d, o6, rfl, hv, sv, bv, hf, B3, h3, ha3⟩
        refine ⟨_, rfl, _, rfl, _, rfl, (by show 2 ≤ sizeLine; decide), fun q1 nq1 => ⟨(by show 2 ≤ sizeLine; decide), fun q2 nq2 => ⟨(by show 0 ≤ sizeLine; decide), fun q3 nq3 => ⟨_, rfl, (by show 2 ≤ sizeLine; decide), fun q4 nq4 => ⟨(by show 3 ≤ sizeLine; decide), fun q5 nq5 => ?_⟩⟩⟩⟩⟩
        have u1 := same_new nq1 (.tup [.int 0, .int 1])
        have u2 := same_new nq2 (.tup [v, .ref q1])
        have u3 := same_new nq3 (.tup [])
        have u4 := same_new nq4 (.tup [.ref q3, v])
        have u5 := same_new nq5 (.lst [v, .ref q2, .ref q4])
        have hv3 := dp_same (mk_sub b g H3) _ _ hv
        have u15 := u1.trans (u2.trans (u3.trans (u4.trans u5)))
        have e2 := u5 _ _ (u4 _ _ (u3 _ _ (upd_same (H := upd H3 q1 (.tup [.int 0, .int 1])) (a := q2) (o := .tup [v, .ref q1]))))
        have e1 := u5 _ _ (u4 _ _ (u3 _ _ (u2 _ _ (upd_same (H := H3) (a := q1) (o := .tup [.int 0, .int 1])))))
        have e3 := u5 _ _ (u4 _ _ (upd_same (H := upd (upd H3 q1 (.tup [.int 0, .int 1])) q2 (.tup [v, .ref q1])) (a := q3) (o := .tup [])))
        have e4 := u5 _ _ (upd_same (H := upd (upd (upd H3 q1 (.tup [.int 0, .int 1])) q2 (.tup [v, .ref q1])) q3 (.tup [])) (a := q4) (o := .tup [.ref q3, v]))
        have kv := dp_same u15 _ _ hv3
        have dnew : DpAll K (upd (upd (upd (upd (upd H3 q1 (.tup [.int 0, .int 1])) q2 (.tup [v, .ref q1])) q3 (.tup [])) q4 (.tup [.ref q3, v])) q5 (.lst [v, .ref q2, .ref q4])) [v, .ref q2, .ref q4] [d, .tuple [d, rat 0 1], .tuple [.tuple [], d]] :=
          .cons kv (.cons (.tup (SqT.of e2) (.cons kv (.cons (dp_rat e1) .nil))) (.cons (.tup (SqT.of e4) (.cons (.tup (SqT.of e3) .nil) (.cons kv .nil))) .nil))
        have hodd := dps_same u15 _ _ (dps_same (mk_sub b g H3) _ _ ha3)
        refine ⟨p15, q5, _, _, rfl, rfl, u15 _ _ h3, upd_same, (by rw [lenO]; show 12 + 3 ≤ sizeLine; decide), fun q6 nq6 => ?_⟩
        have u6 := same_new nq6 (.lst (odds ++ [v, .ref q2, .ref q4]))
        have dall := dps_same u6 _ _ (dps_app hodd dnew)
        refine ⟨q6, rfl, ⟨_, SqL.of upd_same⟩, fun D hD => ?_⟩
        have bad : ∀ e ∈ dodd ++ [d, .tuple [d, rat 0 1], .tuple [.tuple [], d]], shortD e = true ∧ formD e = false := fun e he => by
          rcases List.mem_append.mp he with he | he
          · exact badO e he
          · simp only [List.mem_cons, List.not_mem_nil, or_false] at he
            rcases he with rfl | rfl | rfl
            · exact ⟨sv, bv.f⟩
            · exact ⟨short_pair sv (b := rat 0 1) rfl, hf (by decide)⟩
            · exact ⟨short_pair (a := .tuple []) rfl sv, bad_tail bv⟩
        refine lc_list (K := K) (a := q6) (xs := odds ++ [v, .ref q2, .ref q4]) (fun i H' => Same (upd (upd (upd (upd (upd (upd H3 q1 (.tup [.int 0, .int 1])) q2 (.tup [v, .ref q1])) q3 (.tup [])) q4 (.tup [.ref q3, v])) q5 (.lst [v, .ref q2, .ref q4])) q6 (.lst (odds ++ [v, .ref q2, .ref q4]))) H' ∧ H' D = some (.lst ((List.replicate i false).map V.bl))) ⟨same_new hD _, upd_same⟩ (fun i H' _ h => SqL.of (h.1 _ _ upd_same)) ?_ ?_
        · rintro i x H7 hx ⟨s7, hacc⟩
          obtain ⟨dx, hdx, hxd⟩ := dps_get dall hx
          obtain ⟨bs, bf⟩ := bad dx (List.mem_of_getElem? hdx)
          have hi := get_lt hx
          rw [List.length_append, lenO] at hi
          refine ⟨rfl, _, rfl, x, dx, rfl, dp_same s7 _ _ hxd, bs, fun H8 s8 => ?_⟩
          rw [bf]
          refine ⟨_, s8 _ _ hacc, (by rw [List.length_map, List.length_replicate]; exact small1000 (by have : [v, V.ref q2, V.ref q4].length = 3 := rfl; omega)), same_upd (s7.trans s8) hD, ?_⟩
          rw [upd_same, List.replicate_succ', List.map_append]
          rfl
        · rintro H7 ⟨s7, hacc⟩
          refine ⟨D, _, rfl, SqL.of hacc, _, rfl, ?_⟩
          have fin : ∀ n : Nat, (List.replicate n false).any id = false := fun n => by
            induction n with
            | zero => rfl
            | succ n ih => exact ih
          rw [fin]
          exact q H7
end

theorem walk {l : PySem.W.OpenLaw} {q : Program} {loose : List Str} {XP : (Str → Option Value) → Heap → Prop} {YP : World → Heap → Prop} {d : DefRec} {K : Params → PySem.W.Frag} (hn : l.most = some 63) (hdf : d.params.defaults = [])
    (hY : ∀ (w : World) (h : Heap), YP w h → (K w.params).In h)
    (F : ∀ (w : World) (mg : Str → Option Value) (fa : Addr) (h : Heap), (K w.params).In h → h.Ns mainGlobals mg → mg d.name = some (.ref fa) →
      ∃ fd : FuncData, (∀ (s : Shared) (u : Value), BindsTo s fd ⟨[u], []⟩ [("_law_script", u)]) ∧ ∀ base : Heap, (K w.params).In base → base.Ns mainGlobals mg → FnOk l.prog w (K w.params) mg base CX0 10 fa fd ["_law_script"] (spLaw (K w.params))) :
    PySem.W.WalkO q loose XP YP l.row.toRowW d [] (fun f vs => PySem.call f vs) :=
  L2.walk_of (n := 63) (k := 10) (x := "_law_script") (CX := fun _ => CX0) (sp := fun w => spLaw (K w.params)) hn (by decide) hdf ⟨rfl, by decide, by decide⟩ hY F (fun _ _ a ns hl _ hS => ⟨a, ns, rfl, hS, hl, fun _ => rfl⟩) fun _ _ _ _ _ z => z

theorem all_mk {l : PySem.W.OpenLaw} {w : World} {K : PySem.W.Frag} {h : Heap} {mg : Str → Option Value} {fa : Addr} (X : K.In h) (G : h.Ns mainGlobals mg) (hfa : mg "law" = some (.ref fa))
    {f_is_whole f_is_ratio f_as_ratio f_is_name f_is_form f_is_term f_constant_form f_cell_form f_names_in f_l_box f_l_mixed f_l_take f_l_shuffled f_l_names f_l_shared f_l_ratio f_l_is_ratio f_l_number f_l_given f_l_form f_l_drawn_form f_l_bent_term f_l_bent_form f_l_is_name f_l_is_form f_law C_SheetError C_InvalidNumber f_InvalidNumber_init Z_FUNCTION_WORDS Z_ZERO Z_ONE : Addr}
    {od_is_whole : Option Addr}
    {an_is_whole : Option Addr}
    {sl_is_whole : Array (Option Value)}
    {oc_is_whole : Value}
    {kV_is_whole : Value}
    {dc_is_whole : Value}
    {pm_is_whole : Value}
    {cd_is_whole : Value}
    {ct_is_whole : Value}
    {od_is_ratio : Option Addr}
    {an_is_ratio : Option Addr}
    {sl_is_ratio : Array (Option Value)}
    {oc_is_ratio : Value}
    {kV_is_ratio : Value}
    {dc_is_ratio : Value}
    {pm_is_ratio : Value}
    {cd_is_ratio : Value}
    {ct_is_ratio : Value}
    {od_as_ratio : Option Addr}
    {an_as_ratio : Option Addr}
    {sl_as_ratio : Array (Option Value)}
    {oc_as_ratio : Value}
    {kV_as_ratio : Value}
    {dc_as_ratio : Value}
    {pm_as_ratio : Value}
    {cd_as_ratio : Value}
    {ct_as_ratio : Value}
    {od_is_name : Option Addr}
    {an_is_name : Option Addr}
    {sl_is_name : Array (Option Value)}
    {oc_is_name : Value}
    {kV_is_name : Value}
    {dc_is_name : Value}
    {pm_is_name : Value}
    {cd_is_name : Value}
    {ct_is_name : Value}
    {od_is_form : Option Addr}
    {an_is_form : Option Addr}
    {sl_is_form : Array (Option Value)}
    {oc_is_form : Value}
    {kV_is_form : Value}
    {dc_is_form : Value}
    {pm_is_form : Value}
    {cd_is_form : Value}
    {ct_is_form : Value}
    {od_is_term : Option Addr}
    {an_is_term : Option Addr}
    {sl_is_term : Array (Option Value)}
    {oc_is_term : Value}
    {kV_is_term : Value}
    {dc_is_term : Value}
    {pm_is_term : Value}
    {cd_is_term : Value}
    {ct_is_term : Value}
    {od_constant_form : Option Addr}
    {an_constant_form : Option Addr}
    {sl_constant_form : Array (Option Value)}
    {oc_constant_form : Value}
    {kV_constant_form : Value}
    {dc_constant_form : Value}
    {pm_constant_form : Value}
    {cd_constant_form : Value}
    {ct_constant_form : Value}
    {od_cell_form : Option Addr}
    {an_cell_form : Option Addr}
    {sl_cell_form : Array (Option Value)}
    {oc_cell_form : Value}
    {kV_cell_form : Value}
    {dc_cell_form : Value}
    {pm_cell_form : Value}
    {cd_cell_form : Value}
    {ct_cell_form : Value}
    {od_names_in : Option Addr}
    {an_names_in : Option Addr}
    {sl_names_in : Array (Option Value)}
    {oc_names_in : Value}
    {kV_names_in : Value}
    {dc_names_in : Value}
    {pm_names_in : Value}
    {cd_names_in : Value}
    {ct_names_in : Value}
    {od_l_box : Option Addr}
    {an_l_box : Option Addr}
    {sl_l_box : Array (Option Value)}
    {oc_l_box : Value}
    {kV_l_box : Value}
    {dc_l_box : Value}
    {pm_l_box : Value}
    {cd_l_box : Value}
    {ct_l_box : Value}
    {od_l_mixed : Option Addr}
    {an_l_mixed : Option Addr}
    {sl_l_mixed : Array (Option Value)}
    {oc_l_mixed : Value}
    {kV_l_mixed : Value}
    {dc_l_mixed : Value}
    {pm_l_mixed : Value}
    {cd_l_mixed : Value}
    {ct_l_mixed : Value}
    {od_l_take : Option Addr}
    {an_l_take : Option Addr}
    {sl_l_take : Array (Option Value)}
    {oc_l_take : Value}
    {kV_l_take : Value}
    {dc_l_take : Value}
    {pm_l_take : Value}
    {cd_l_take : Value}
    {ct_l_take : Value}
    {od_l_shuffled : Option Addr}
    {an_l_shuffled : Option Addr}
    {sl_l_shuffled : Array (Option Value)}
    {oc_l_shuffled : Value}
    {kV_l_shuffled : Value}
    {dc_l_shuffled : Value}
    {pm_l_shuffled : Value}
    {cd_l_shuffled : Value}
    {ct_l_shuffled : Value}
    {od_l_names : Option Addr}
    {an_l_names : Option Addr}
    {sl_l_names : Array (Option Value)}
    {oc_l_names : Value}
    {kV_l_names : Value}
    {dc_l_names : Value}
    {pm_l_names : Value}
    {cd_l_names : Value}
    {ct_l_names : Value}
    {od_l_shared : Option Addr}
    {an_l_shared : Option Addr}
    {sl_l_shared : Array (Option Value)}
    {oc_l_shared : Value}
    {kV_l_shared : Value}
    {dc_l_shared : Value}
    {pm_l_shared : Value}
    {cd_l_shared : Value}
    {ct_l_shared : Value}
    {od_l_ratio : Option Addr}
    {an_l_ratio : Option Addr}
    {sl_l_ratio : Array (Option Value)}
    {oc_l_ratio : Value}
    {kV_l_ratio : Value}
    {dc_l_ratio : Value}
    {pm_l_ratio : Value}
    {cd_l_ratio : Value}
    {ct_l_ratio : Value}
    {od_l_is_ratio : Option Addr}
    {an_l_is_ratio : Option Addr}
    {sl_l_is_ratio : Array (Option Value)}
    {oc_l_is_ratio : Value}
    {kV_l_is_ratio : Value}
    {dc_l_is_ratio : Value}
    {pm_l_is_ratio : Value}
    {cd_l_is_ratio : Value}
    {ct_l_is_ratio : Value}
    {od_l_number : Option Addr}
    {an_l_number : Option Addr}
    {sl_l_number : Array (Option Value)}
    {oc_l_number : Value}
    {kV_l_number : Value}
    {dc_l_number : Value}
    {pm_l_number : Value}
    {cd_l_number : Value}
    {ct_l_number : Value}
    {od_l_given : Option Addr}
    {an_l_given : Option Addr}
    {sl_l_given : Array (Option Value)}
    {oc_l_given : Value}
    {kV_l_given : Value}
    {dc_l_given : Value}
    {pm_l_given : Value}
    {cd_l_given : Value}
    {ct_l_given : Value}
    {od_l_form : Option Addr}
    {an_l_form : Option Addr}
    {sl_l_form : Array (Option Value)}
    {oc_l_form : Value}
    {kV_l_form : Value}
    {dc_l_form : Value}
    {pm_l_form : Value}
    {cd_l_form : Value}
    {ct_l_form : Value}
    {od_l_drawn_form : Option Addr}
    {an_l_drawn_form : Option Addr}
    {sl_l_drawn_form : Array (Option Value)}
    {oc_l_drawn_form : Value}
    {kV_l_drawn_form : Value}
    {dc_l_drawn_form : Value}
    {pm_l_drawn_form : Value}
    {cd_l_drawn_form : Value}
    {ct_l_drawn_form : Value}
    {od_l_bent_term : Option Addr}
    {an_l_bent_term : Option Addr}
    {sl_l_bent_term : Array (Option Value)}
    {oc_l_bent_term : Value}
    {kV_l_bent_term : Value}
    {dc_l_bent_term : Value}
    {pm_l_bent_term : Value}
    {cd_l_bent_term : Value}
    {ct_l_bent_term : Value}
    {od_l_bent_form : Option Addr}
    {an_l_bent_form : Option Addr}
    {sl_l_bent_form : Array (Option Value)}
    {oc_l_bent_form : Value}
    {kV_l_bent_form : Value}
    {dc_l_bent_form : Value}
    {pm_l_bent_form : Value}
    {cd_l_bent_form : Value}
    {ct_l_bent_form : Value}
    {od_l_is_name : Option Addr}
    {an_l_is_name : Option Addr}
    {sl_l_is_name : Array (Option Value)}
    {oc_l_is_name : Value}
    {kV_l_is_name : Value}
    {dc_l_is_name : Value}
    {pm_l_is_name : Value}
    {cd_l_is_name : Value}
    {ct_l_is_name : Value}
    {od_l_is_form : Option Addr}
    {an_l_is_form : Option Addr}
    {sl_l_is_form : Array (Option Value)}
    {oc_l_is_form : Value}
    {kV_l_is_form : Value}
    {dc_l_is_form : Value}
    {pm_l_is_form : Value}
    {cd_l_is_form : Value}
    {ct_l_is_form : Value}
    {od_law : Option Addr}
    {an_law : Option Addr}
    {sl_law : Array (Option Value)}
    {oc_law : Value}
    {kV_law : Value}
    {dc_law : Value}
    {pm_law : Value}
    {cd_law : Value}
    {ct_law : Value}
    {nm_InvalidNumber q_InvalidNumber : Str}
    {N_InvalidNumber : Addr}
    {bs_InvalidNumber : List Value}
    {sn_InvalidNumber : List Str}
    {sub_InvalidNumber : List Value}
    {ab_InvalidNumber : Bool}
    {col_InvalidNumber : Option Bool}
    {dd_InvalidNumber : Option Addr}
    {m0_InvalidNumber m1_InvalidNumber m2_InvalidNumber m3_InvalidNumber m5_InvalidNumber : Option Value}
    {od_InvalidNumber_init : Option Addr}
    {an_InvalidNumber_init : Option Addr}
    {sl_InvalidNumber_init : Array (Option Value)}
    {oc_InvalidNumber_init : Value}
    {kV_InvalidNumber_init : Value}
    {dc_InvalidNumber_init : Value}
    {pm_InvalidNumber_init : Value}
    {cd_InvalidNumber_init : Value}
    {ct_InvalidNumber_init : Value}
    {tk_NAME_LETTERS : Tok}
    {tz0_FUNCTION_WORDS : Tok}
    {tz1_FUNCTION_WORDS : Tok}
    {dz_FUNCTION_WORDS : Option Addr}
    {nz_FUNCTION_WORDS : Nat}
    {sz_FUNCTION_WORDS : Array (Option Value)}
    {tz0_ZERO : Tok}
    {tz1_ZERO : Tok}
    {dz_ZERO : Option Addr}
    {nz_ZERO : Nat}
    {sz_ZERO : Array (Option Value)}
    {tz0_ONE : Tok}
    {tz1_ONE : Tok}
    {dz_ONE : Option Addr}
    {nz_ONE : Nat}
    {sz_ONE : Array (Option Value)}
    (a_is_whole : PySem.W.nsIn K mainGlobals "is_whole" = some (some (.ref f_is_whole)))
    (l_is_whole : K.lookup f_is_whole = some ⟨oc_is_whole, od_is_whole, .func (PySem.W.fnOf "is_whole" "is_whole" (defArgs s_is_whole) (defBody s_is_whole) (defScope s_is_whole) .none kV_is_whole dc_is_whole pm_is_whole an_is_whole cd_is_whole ct_is_whole), sl_is_whole⟩)
    (c_is_whole : PySem.W.codeIn K cd_is_whole "is_whole" = true)
    (k_is_whole : PySem.W.keepIn K (.ref f_is_whole) = true)
    (a_is_ratio : PySem.W.nsIn K mainGlobals "is_ratio" = some (some (.ref f_is_ratio)))
    (l_is_ratio : K.lookup f_is_ratio = some ⟨oc_is_ratio, od_is_ratio, .func (PySem.W.fnOf "is_ratio" "is_ratio" (defArgs s_is_ratio) (defBody s_is_ratio) (defScope s_is_ratio) .none kV_is_ratio dc_is_ratio pm_is_ratio an_is_ratio cd_is_ratio ct_is_ratio), sl_is_ratio⟩)
    (c_is_ratio : PySem.W.codeIn K cd_is_ratio "is_ratio" = true)
    (k_is_ratio : PySem.W.keepIn K (.ref f_is_ratio) = true)
    (a_as_ratio : PySem.W.nsIn K mainGlobals "as_ratio" = some (some (.ref f_as_ratio)))
    (l_as_ratio : K.lookup f_as_ratio = some ⟨oc_as_ratio, od_as_ratio, .func (PySem.W.fnOf "as_ratio" "as_ratio" (defArgs s_as_ratio) (defBody s_as_ratio) (defScope s_as_ratio) .none kV_as_ratio dc_as_ratio pm_as_ratio an_as_ratio cd_as_ratio ct_as_ratio), sl_as_ratio⟩)
    (c_as_ratio : PySem.W.codeIn K cd_as_ratio "as_ratio" = true)
    (k_as_ratio : PySem.W.keepIn K (.ref f_as_ratio) = true)
    (a_is_name : PySem.W.nsIn K mainGlobals "is_name" = some (some (.ref f_is_name)))
    (l_is_name : K.lookup f_is_name = some ⟨oc_is_name, od_is_name, .func (PySem.W.fnOf "is_name" "is_name" (defArgs s_is_name) (defBody s_is_name) (defScope s_is_name) .none kV_is_name dc_is_name pm_is_name an_is_name cd_is_name ct_is_name), sl_is_name⟩)
    (c_is_name : PySem.W.codeIn K cd_is_name "is_name" = true)
    (k_is_name : PySem.W.keepIn K (.ref f_is_name) = true)
    (a_is_form : PySem.W.nsIn K mainGlobals "is_form" = some (some (.ref f_is_form)))
    (l_is_form : K.lookup f_is_form = some ⟨oc_is_form, od_is_form, .func (PySem.W.fnOf "is_form" "is_form" (defArgs s_is_form) (defBody s_is_form) (defScope s_is_form) .none kV_is_form dc_is_form pm_is_form an_is_form cd_is_form ct_is_form), sl_is_form⟩)
    (c_is_form : PySem.W.codeIn K cd_is_form "is_form" = true)
    (k_is_form : PySem.W.keepIn K (.ref f_is_form) = true)
    (a_is_term : PySem.W.nsIn K mainGlobals "is_term" = some (some (.ref f_is_term)))
    (l_is_term : K.lookup f_is_term = some ⟨oc_is_term, od_is_term, .func (PySem.W.fnOf "is_term" "is_term" (defArgs s_is_term) (defBody s_is_term) (defScope s_is_term) .none kV_is_term dc_is_term pm_is_term an_is_term cd_is_term ct_is_term), sl_is_term⟩)
    (c_is_term : PySem.W.codeIn K cd_is_term "is_term" = true)
    (k_is_term : PySem.W.keepIn K (.ref f_is_term) = true)
    (a_constant_form : PySem.W.nsIn K mainGlobals "constant_form" = some (some (.ref f_constant_form)))
    (l_constant_form : K.lookup f_constant_form = some ⟨oc_constant_form, od_constant_form, .func (PySem.W.fnOf "constant_form" "constant_form" (defArgs s_constant_form) (defBody s_constant_form) (defScope s_constant_form) .none kV_constant_form dc_constant_form pm_constant_form an_constant_form cd_constant_form ct_constant_form), sl_constant_form⟩)
    (c_constant_form : PySem.W.codeIn K cd_constant_form "constant_form" = true)
    (k_constant_form : PySem.W.keepIn K (.ref f_constant_form) = true)
    (a_cell_form : PySem.W.nsIn K mainGlobals "cell_form" = some (some (.ref f_cell_form)))
    (l_cell_form : K.lookup f_cell_form = some ⟨oc_cell_form, od_cell_form, .func (PySem.W.fnOf "cell_form" "cell_form" (defArgs s_cell_form) (defBody s_cell_form) (defScope s_cell_form) .none kV_cell_form dc_cell_form pm_cell_form an_cell_form cd_cell_form ct_cell_form), sl_cell_form⟩)
    (c_cell_form : PySem.W.codeIn K cd_cell_form "cell_form" = true)
    (k_cell_form : PySem.W.keepIn K (.ref f_cell_form) = true)
    (a_names_in : PySem.W.nsIn K mainGlobals "names_in" = some (some (.ref f_names_in)))
    (l_names_in : K.lookup f_names_in = some ⟨oc_names_in, od_names_in, .func (PySem.W.fnOf "names_in" "names_in" (defArgs s_names_in) (defBody s_names_in) (defScope s_names_in) .none kV_names_in dc_names_in pm_names_in an_names_in cd_names_in ct_names_in), sl_names_in⟩)
    (c_names_in : PySem.W.codeIn K cd_names_in "names_in" = true)
    (k_names_in : PySem.W.keepIn K (.ref f_names_in) = true)
    (a_l_box : PySem.W.nsIn K mainGlobals "_law_box" = some (some (.ref f_l_box)))
    (l_l_box : K.lookup f_l_box = some ⟨oc_l_box, od_l_box, .func (PySem.W.fnOf "_law_box" "_law_box" (defArgs s_l_box) (defBody s_l_box) (defScope s_l_box) .none kV_l_box dc_l_box pm_l_box an_l_box cd_l_box ct_l_box), sl_l_box⟩)
    (c_l_box : PySem.W.codeIn K cd_l_box "_law_box" = true)
    (k_l_box : PySem.W.keepIn K (.ref f_l_box) = true)
    (a_l_mixed : PySem.W.nsIn K mainGlobals "_law_mixed" = some (some (.ref f_l_mixed)))
    (l_l_mixed : K.lookup f_l_mixed = some ⟨oc_l_mixed, od_l_mixed, .func (PySem.W.fnOf "_law_mixed" "_law_mixed" (defArgs s_l_mixed) (defBody s_l_mixed) (defScope s_l_mixed) .none kV_l_mixed dc_l_mixed pm_l_mixed an_l_mixed cd_l_mixed ct_l_mixed), sl_l_mixed⟩)
    (c_l_mixed : PySem.W.codeIn K cd_l_mixed "_law_mixed" = true)
    (k_l_mixed : PySem.W.keepIn K (.ref f_l_mixed) = true)
    (a_l_take : PySem.W.nsIn K mainGlobals "_law_take" = some (some (.ref f_l_take)))
    (l_l_take : K.lookup f_l_take = some ⟨oc_l_take, od_l_take, .func (PySem.W.fnOf "_law_take" "_law_take" (defArgs s_l_take) (defBody s_l_take) (defScope s_l_take) .none kV_l_take dc_l_take pm_l_take an_l_take cd_l_take ct_l_take), sl_l_take⟩)
    (c_l_take : PySem.W.codeIn K cd_l_take "_law_take" = true)
    (k_l_take : PySem.W.keepIn K (.ref f_l_take) = true)
    (a_l_shuffled : PySem.W.nsIn K mainGlobals "_law_shuffled" = some (some (.ref f_l_shuffled)))
    (l_l_shuffled : K.lookup f_l_shuffled = some ⟨oc_l_shuffled, od_l_shuffled, .func (PySem.W.fnOf "_law_shuffled" "_law_shuffled" (defArgs s_l_shuffled) (defBody s_l_shuffled) (defScope s_l_shuffled) .none kV_l_shuffled dc_l_shuffled pm_l_shuffled an_l_shuffled cd_l_shuffled ct_l_shuffled), sl_l_shuffled⟩)
    (c_l_shuffled : PySem.W.codeIn K cd_l_shuffled "_law_shuffled" = true)
    (k_l_shuffled : PySem.W.keepIn K (.ref f_l_shuffled) = true)
    (a_l_names : PySem.W.nsIn K mainGlobals "_law_names" = some (some (.ref f_l_names)))
    (l_l_names : K.lookup f_l_names = some ⟨oc_l_names, od_l_names, .func (PySem.W.fnOf "_law_names" "_law_names" (defArgs s_l_names) (defBody s_l_names) (defScope s_l_names) .none kV_l_names dc_l_names pm_l_names an_l_names cd_l_names ct_l_names), sl_l_names⟩)
    (c_l_names : PySem.W.codeIn K cd_l_names "_law_names" = true)
    (k_l_names : PySem.W.keepIn K (.ref f_l_names) = true)
    (a_l_shared : PySem.W.nsIn K mainGlobals "_law_shared" = some (some (.ref f_l_shared)))
    (l_l_shared : K.lookup f_l_shared = some ⟨oc_l_shared, od_l_shared, .func (PySem.W.fnOf "_law_shared" "_law_shared" (defArgs s_l_shared) (defBody s_l_shared) (defScope s_l_shared) .none kV_l_shared dc_l_shared pm_l_shared an_l_shared cd_l_shared ct_l_shared), sl_l_shared⟩)
    (c_l_shared : PySem.W.codeIn K cd_l_shared "_law_shared" = true)
    (k_l_shared : PySem.W.keepIn K (.ref f_l_shared) = true)
    (a_l_ratio : PySem.W.nsIn K mainGlobals "_law_ratio" = some (some (.ref f_l_ratio)))
    (l_l_ratio : K.lookup f_l_ratio = some ⟨oc_l_ratio, od_l_ratio, .func (PySem.W.fnOf "_law_ratio" "_law_ratio" (defArgs s_l_ratio) (defBody s_l_ratio) (defScope s_l_ratio) .none kV_l_ratio dc_l_ratio pm_l_ratio an_l_ratio cd_l_ratio ct_l_ratio), sl_l_ratio⟩)
    (c_l_ratio : PySem.W.codeIn K cd_l_ratio "_law_ratio" = true)
    (k_l_ratio : PySem.W.keepIn K (.ref f_l_ratio) = true)
    (a_l_is_ratio : PySem.W.nsIn K mainGlobals "_law_is_ratio" = some (some (.ref f_l_is_ratio)))
    (l_l_is_ratio : K.lookup f_l_is_ratio = some ⟨oc_l_is_ratio, od_l_is_ratio, .func (PySem.W.fnOf "_law_is_ratio" "_law_is_ratio" (defArgs s_l_is_ratio) (defBody s_l_is_ratio) (defScope s_l_is_ratio) .none kV_l_is_ratio dc_l_is_ratio pm_l_is_ratio an_l_is_ratio cd_l_is_ratio ct_l_is_ratio), sl_l_is_ratio⟩)
    (c_l_is_ratio : PySem.W.codeIn K cd_l_is_ratio "_law_is_ratio" = true)
    (k_l_is_ratio : PySem.W.keepIn K (.ref f_l_is_ratio) = true)
    (a_l_number : PySem.W.nsIn K mainGlobals "_law_number" = some (some (.ref f_l_number)))
    (l_l_number : K.lookup f_l_number = some ⟨oc_l_number, od_l_number, .func (PySem.W.fnOf "_law_number" "_law_number" (defArgs s_l_number) (defBody s_l_number) (defScope s_l_number) .none kV_l_number dc_l_number pm_l_number an_l_number cd_l_number ct_l_number), sl_l_number⟩)
    (c_l_number : PySem.W.codeIn K cd_l_number "_law_number" = true)
    (k_l_number : PySem.W.keepIn K (.ref f_l_number) = true)
    (a_l_given : PySem.W.nsIn K mainGlobals "_law_given" = some (some (.ref f_l_given)))
    (l_l_given : K.lookup f_l_given = some ⟨oc_l_given, od_l_given, .func (PySem.W.fnOf "_law_given" "_law_given" (defArgs s_l_given) (defBody s_l_given) (defScope s_l_given) .none kV_l_given dc_l_given pm_l_given an_l_given cd_l_given ct_l_given), sl_l_given⟩)
    (c_l_given : PySem.W.codeIn K cd_l_given "_law_given" = true)
    (k_l_given : PySem.W.keepIn K (.ref f_l_given) = true)
    (a_l_form : PySem.W.nsIn K mainGlobals "_law_form" = some (some (.ref f_l_form)))
    (l_l_form : K.lookup f_l_form = some ⟨oc_l_form, od_l_form, .func (PySem.W.fnOf "_law_form" "_law_form" (defArgs s_l_form) (defBody s_l_form) (defScope s_l_form) .none kV_l_form dc_l_form pm_l_form an_l_form cd_l_form ct_l_form), sl_l_form⟩)
    (c_l_form : PySem.W.codeIn K cd_l_form "_law_form" = true)
    (k_l_form : PySem.W.keepIn K (.ref f_l_form) = true)
    (a_l_drawn_form : PySem.W.nsIn K mainGlobals "_law_drawn_form" = some (some (.ref f_l_drawn_form)))
    (l_l_drawn_form : K.lookup f_l_drawn_form = some ⟨oc_l_drawn_form, od_l_drawn_form, .func (PySem.W.fnOf "_law_drawn_form" "_law_drawn_form" (defArgs s_l_drawn_form) (defBody s_l_drawn_form) (defScope s_l_drawn_form) .none kV_l_drawn_form dc_l_drawn_form pm_l_drawn_form an_l_drawn_form cd_l_drawn_form ct_l_drawn_form), sl_l_drawn_form⟩)
    (c_l_drawn_form : PySem.W.codeIn K cd_l_drawn_form "_law_drawn_form" = true)
    (k_l_drawn_form : PySem.W.keepIn K (.ref f_l_drawn_form) = true)
    (a_l_bent_term : PySem.W.nsIn K mainGlobals "_law_bent_term" = some (some (.ref f_l_bent_term)))
    (l_l_bent_term : K.lookup f_l_bent_term = some ⟨oc_l_bent_term, od_l_bent_term, .func (PySem.W.fnOf "_law_bent_term" "_law_bent_term" (defArgs s_l_bent_term) (defBody s_l_bent_term) (defScope s_l_bent_term) .none kV_l_bent_term dc_l_bent_term pm_l_bent_term an_l_bent_term cd_l_bent_term ct_l_bent_term), sl_l_bent_term⟩)
    (c_l_bent_term : PySem.W.codeIn K cd_l_bent_term "_law_bent_term" = true)
    (k_l_bent_term : PySem.W.keepIn K (.ref f_l_bent_term) = true)
    (a_l_bent_form : PySem.W.nsIn K mainGlobals "_law_bent_form" = some (some (.ref f_l_bent_form)))
    (l_l_bent_form : K.lookup f_l_bent_form = some ⟨oc_l_bent_form, od_l_bent_form, .func (PySem.W.fnOf "_law_bent_form" "_law_bent_form" (defArgs s_l_bent_form) (defBody s_l_bent_form) (defScope s_l_bent_form) .none kV_l_bent_form dc_l_bent_form pm_l_bent_form an_l_bent_form cd_l_bent_form ct_l_bent_form), sl_l_bent_form⟩)
    (c_l_bent_form : PySem.W.codeIn K cd_l_bent_form "_law_bent_form" = true)
    (k_l_bent_form : PySem.W.keepIn K (.ref f_l_bent_form) = true)
    (a_l_is_name : PySem.W.nsIn K mainGlobals "_law_is_name" = some (some (.ref f_l_is_name)))
    (l_l_is_name : K.lookup f_l_is_name = some ⟨oc_l_is_name, od_l_is_name, .func (PySem.W.fnOf "_law_is_name" "_law_is_name" (defArgs s_l_is_name) (defBody s_l_is_name) (defScope s_l_is_name) .none kV_l_is_name dc_l_is_name pm_l_is_name an_l_is_name cd_l_is_name ct_l_is_name), sl_l_is_name⟩)
    (c_l_is_name : PySem.W.codeIn K cd_l_is_name "_law_is_name" = true)
    (k_l_is_name : PySem.W.keepIn K (.ref f_l_is_name) = true)
    (a_l_is_form : PySem.W.nsIn K mainGlobals "_law_is_form" = some (some (.ref f_l_is_form)))
    (l_l_is_form : K.lookup f_l_is_form = some ⟨oc_l_is_form, od_l_is_form, .func (PySem.W.fnOf "_law_is_form" "_law_is_form" (defArgs s_l_is_form) (defBody s_l_is_form) (defScope s_l_is_form) .none kV_l_is_form dc_l_is_form pm_l_is_form an_l_is_form cd_l_is_form ct_l_is_form), sl_l_is_form⟩)
    (c_l_is_form : PySem.W.codeIn K cd_l_is_form "_law_is_form" = true)
    (k_l_is_form : PySem.W.keepIn K (.ref f_l_is_form) = true)
    (a_law : PySem.W.nsIn K mainGlobals "law" = some (some (.ref f_law)))
    (l_law : K.lookup f_law = some ⟨oc_law, od_law, .func (PySem.W.fnOf "law" "law" (defArgs s_law) (defBody s_law) (defScope s_law) .none kV_law dc_law pm_law an_law cd_law ct_law), sl_law⟩)
    (c_law : PySem.W.codeIn K cd_law "law" = true)
    (k_law : PySem.W.keepIn K (.ref f_law) = true)
    (aC_SheetError : PySem.W.nsIn K mainGlobals "SheetError" = some (some (.ref C_SheetError)))
    (aC_InvalidNumber : PySem.W.nsIn K mainGlobals "InvalidNumber" = some (some (.ref C_InvalidNumber)))
    (special : PySem.W.specialIn K (.builtin "object.__class__") "__get__" = some (some (.builtin "getset_descriptor.__get__")))
    (takes : PySem.W.takesIn K (.builtin "object.__class__") = some true)
    (kS_InvalidNumber : PySem.W.kitOne K (.ref C_InvalidNumber) (.ref C_SheetError) = some true)
    (ga_InvalidNumber : PySem.W.findIn K (.ref C_InvalidNumber) "__getattribute__" = some (some (.builtin "BaseException.__getattribute__")))
    (gg_InvalidNumber : PySem.W.findIn K (.ref C_InvalidNumber) "__getattr__" = some none)
    (sb_InvalidNumber : PySem.W.subIn K (.ref C_InvalidNumber) (.type "BaseException") = some true)
    (hd_InvalidNumber : PySem.W.hasDictIn K C_InvalidNumber = true)
    (ha_InvalidNumber : PySem.W.findIn K (.ref C_InvalidNumber) "__class__" = some (some (.builtin "object.__class__")))
    (hm_InvalidNumber : PySem.W.mroIn K C_InvalidNumber (.type "object") = some true)
    (ty_InvalidNumber : PySem.W.typeIn K (.ref C_InvalidNumber) = some (.type "type"))
    (kp_InvalidNumber : PySem.W.keepIn K (.ref C_InvalidNumber) = true)
    (ex_InvalidNumber : PySem.W.exmOne K (.ref C_InvalidNumber) (.ref C_InvalidNumber) = some true)
    (x_InvalidNumber : K.lookup C_InvalidNumber = some (excClassObj nm_InvalidNumber q_InvalidNumber C_InvalidNumber N_InvalidNumber bs_InvalidNumber [.ref C_SheetError, .type "ValueError", .type "Exception", .type "BaseException", .type "object"] true sn_InvalidNumber sub_InvalidNumber ab_InvalidNumber col_InvalidNumber dd_InvalidNumber m0_InvalidNumber m1_InvalidNumber m2_InvalidNumber m3_InvalidNumber m5_InvalidNumber "ValueError.__new__"))
    (sa_InvalidNumber : PySem.W.findIn K (.ref C_InvalidNumber) "__setattr__" = some (some (.builtin "object.__setattr__")))
    (no_InvalidNumber : PySem.W.findIn K (.ref C_InvalidNumber) "value" = some none)
    (i_InvalidNumber : PySem.W.findIn K (.ref C_InvalidNumber) "__init__" = some (some (.ref f_InvalidNumber_init)))
    (ti_InvalidNumber : PySem.W.typeIn K (.ref f_InvalidNumber_init) = some (.type "function"))
    (l_InvalidNumber_init : K.lookup f_InvalidNumber_init = some ⟨oc_InvalidNumber_init, od_InvalidNumber_init, .func (PySem.W.fnOf "__init__" "InvalidNumber.__init__" (defArgs s_InvalidNumber_init) (defBody s_InvalidNumber_init) (defScope s_InvalidNumber_init) .none kV_InvalidNumber_init dc_InvalidNumber_init pm_InvalidNumber_init an_InvalidNumber_init cd_InvalidNumber_init ct_InvalidNumber_init), sl_InvalidNumber_init⟩)
    (c_InvalidNumber_init : PySem.W.codeIn K cd_InvalidNumber_init "InvalidNumber.__init__" = true)
    (k_InvalidNumber_init : PySem.W.keepIn K (.ref f_InvalidNumber_init) = true)
    (v_NAME_LETTERS : PySem.W.nsIn K mainGlobals "NAME_LETTERS" = some (some (.int 8 tk_NAME_LETTERS)))
    (aZ_FUNCTION_WORDS : PySem.W.nsIn K mainGlobals "FUNCTION_WORDS" = some (some (.ref Z_FUNCTION_WORDS)))
    (lZ_FUNCTION_WORDS : K.lookup Z_FUNCTION_WORDS = some ⟨.type "tuple", dz_FUNCTION_WORDS, .seq #[.str "sum" tz0_FUNCTION_WORDS, .str "average" tz1_FUNCTION_WORDS] nz_FUNCTION_WORDS, sz_FUNCTION_WORDS⟩)
    (aZ_ZERO : PySem.W.nsIn K mainGlobals "ZERO" = some (some (.ref Z_ZERO)))
    (lZ_ZERO : K.lookup Z_ZERO = some ⟨.type "tuple", dz_ZERO, .seq #[.int 0 tz0_ZERO, .int 1 tz1_ZERO] nz_ZERO, sz_ZERO⟩)
    (aZ_ONE : PySem.W.nsIn K mainGlobals "ONE" = some (some (.ref Z_ONE)))
    (lZ_ONE : K.lookup Z_ONE = some ⟨.type "tuple", dz_ONE, .seq #[.int 1 tz0_ONE, .int 1 tz1_ONE] nz_ONE, sz_ONE⟩)
    (n_len : PySem.W.nsIn K mainGlobals "len" = some none)
    (n_max : PySem.W.nsIn K mainGlobals "max" = some none)
    (n_abs : PySem.W.nsIn K mainGlobals "abs" = some none)
    (n_any : PySem.W.nsIn K mainGlobals "any" = some none)
    (n_all : PySem.W.nsIn K mainGlobals "all" = some none)
    (n_isinstance : PySem.W.nsIn K mainGlobals "isinstance" = some none)
    (n_range : PySem.W.nsIn K mainGlobals "range" = some none)
    (n_zip : PySem.W.nsIn K mainGlobals "zip" = some none)
    (n_int : PySem.W.nsIn K mainGlobals "int" = some none)
    (n_bool : PySem.W.nsIn K mainGlobals "bool" = some none)
    (n_tuple : PySem.W.nsIn K mainGlobals "tuple" = some none)
    (n_list : PySem.W.nsIn K mainGlobals "list" = some none)
    (n_str : PySem.W.nsIn K mainGlobals "str" = some none)
    (n_set : PySem.W.nsIn K mainGlobals "set" = some none)
    (n_sorted : PySem.W.nsIn K mainGlobals "sorted" = some none)
    (g_gcd : PySem.W.nsIn K mainGlobals "gcd" = some (some (.builtin "math.gcd"))) :
    ∃ fd : FuncData, (∀ (s : Shared) (v : Value), BindsTo s fd ⟨[v], []⟩ [("_law_script", v)]) ∧ ∀ base : Heap, K.In base → base.Ns mainGlobals mg → FnOk l.prog w K mg base CX0 10 fa fd ["_law_script"] (spLaw K) := by
  have e := hfa.symm.trans (PySem.W.mg_of X G a_law)
  cases e
  have T : Bt mg := ⟨PySem.W.mg_none_of X G n_len, PySem.W.mg_none_of X G n_max, PySem.W.mg_none_of X G n_abs, PySem.W.mg_none_of X G n_any, PySem.W.mg_none_of X G n_all, PySem.W.mg_none_of X G n_isinstance, PySem.W.mg_none_of X G n_range, PySem.W.mg_none_of X G n_zip, PySem.W.mg_none_of X G n_int, PySem.W.mg_none_of X G n_bool, PySem.W.mg_none_of X G n_tuple, PySem.W.mg_none_of X G n_list⟩
  have w_NAME_LETTERS : ∃ t, mg "NAME_LETTERS" = some (.int 8 t) := ⟨_, PySem.W.mg_of X G v_NAME_LETTERS⟩
  have w_FUNCTION_WORDS : ∃ a, mg "FUNCTION_WORDS" = some (.ref a) ∧ ∀ H, SqT K H a [V.str "sum", V.str "average"] := ⟨_, PySem.W.mg_of X G aZ_FUNCTION_WORDS, fun H => .inr ⟨_, _, _, lZ_FUNCTION_WORDS, rfl, rfl, (by show 2 ≤ sizeLine; decide), (.cons ⟨_, rfl⟩ (.cons ⟨_, rfl⟩ .nil))⟩⟩
  have w_ZERO : ∃ a, mg "ZERO" = some (.ref a) ∧ ∀ H, SqT K H a [V.int 0, V.int 1] := ⟨_, PySem.W.mg_of X G aZ_ZERO, fun H => .inr ⟨_, _, _, lZ_ZERO, rfl, rfl, (by show 2 ≤ sizeLine; decide), (.cons ⟨_, rfl⟩ (.cons ⟨_, rfl⟩ .nil))⟩⟩
  have w_ONE : ∃ a, mg "ONE" = some (.ref a) ∧ ∀ H, SqT K H a [V.int 1, V.int 1] := ⟨_, PySem.W.mg_of X G aZ_ONE, fun H => .inr ⟨_, _, _, lZ_ONE, rfl, rfl, (by show 2 ≤ sizeLine; decide), (.cons ⟨_, rfl⟩ (.cons ⟨_, rfl⟩ .nil))⟩⟩
  have ux : True := trivial
  have Tg : Gt mg := ⟨PySem.W.mg_of X G g_gcd⟩
  have F_is_whole := fun_mk (st := s_is_whole) l_is_whole c_is_whole k_is_whole
  have D_is_whole : Df K mg "is_whole" s_is_whole ["value"] := ⟨_, _, F_is_whole, PySem.W.mg_of X G a_is_whole, F_is_whole.binds fun _ _ _ _ _ _ us hl => match us, hl with | [_], _ => rfl⟩
  have F_is_ratio := fun_mk (st := s_is_ratio) l_is_ratio c_is_ratio k_is_ratio
  have D_is_ratio : Df K mg "is_ratio" s_is_ratio ["value"] := ⟨_, _, F_is_ratio, PySem.W.mg_of X G a_is_ratio, F_is_ratio.binds fun _ _ _ _ _ _ us hl => match us, hl with | [_], _ => rfl⟩
  have F_as_ratio := fun_mk (st := s_as_ratio) l_as_ratio c_as_ratio k_as_ratio
  have D_as_ratio : Df K mg "as_ratio" s_as_ratio ["value"] := ⟨_, _, F_as_ratio, PySem.W.mg_of X G a_as_ratio, F_as_ratio.binds fun _ _ _ _ _ _ us hl => match us, hl with | [_], _ => rfl⟩
  have F_is_name := fun_mk (st := s_is_name) l_is_name c_is_name k_is_name
  have D_is_name : Df K mg "is_name" s_is_name ["value"] := ⟨_, _, F_is_name, PySem.W.mg_of X G a_is_name, F_is_name.binds fun _ _ _ _ _ _ us hl => match us, hl with | [_], _ => rfl⟩
  have F_is_form := fun_mk (st := s_is_form) l_is_form c_is_form k_is_form
  have D_is_form : Df K mg "is_form" s_is_form ["value"] := ⟨_, _, F_is_form, PySem.W.mg_of X G a_is_form, F_is_form.binds fun _ _ _ _ _ _ us hl => match us, hl with | [_], _ => rfl⟩
  have F_is_term := fun_mk (st := s_is_term) l_is_term c_is_term k_is_term
  have D_is_term : Df K mg "is_term" s_is_term ["value"] := ⟨_, _, F_is_term, PySem.W.mg_of X G a_is_term, F_is_term.binds fun _ _ _ _ _ _ us hl => match us, hl with | [_], _ => rfl⟩
  have F_constant_form := fun_mk (st := s_constant_form) l_constant_form c_constant_form k_constant_form
  have D_constant_form : Df K mg "constant_form" s_constant_form ["number"] := ⟨_, _, F_constant_form, PySem.W.mg_of X G a_constant_form, F_constant_form.binds fun _ _ _ _ _ _ us hl => match us, hl with | [_], _ => rfl⟩
  have F_cell_form := fun_mk (st := s_cell_form) l_cell_form c_cell_form k_cell_form
  have D_cell_form : Df K mg "cell_form" s_cell_form ["name"] := ⟨_, _, F_cell_form, PySem.W.mg_of X G a_cell_form, F_cell_form.binds fun _ _ _ _ _ _ us hl => match us, hl with | [_], _ => rfl⟩
  have F_names_in := fun_mk (st := s_names_in) l_names_in c_names_in k_names_in
  have D_names_in : Df K mg "names_in" s_names_in ["form"] := ⟨_, _, F_names_in, PySem.W.mg_of X G a_names_in, F_names_in.binds fun _ _ _ _ _ _ us hl => match us, hl with | [_], _ => rfl⟩
  have F_l_box := fun_mk (st := s_l_box) l_l_box c_l_box k_l_box
  have D_l_box : Df K mg "_law_box" s_l_box ["_law_script"] := ⟨_, _, F_l_box, PySem.W.mg_of X G a_l_box, F_l_box.binds fun _ _ _ _ _ _ us hl => match us, hl with | [_], _ => rfl⟩
  have F_l_mixed := fun_mk (st := s_l_mixed) l_l_mixed c_l_mixed k_l_mixed
  have D_l_mixed : Df K mg "_law_mixed" s_l_mixed ["_law_cell", "_law_k"] := ⟨_, _, F_l_mixed, PySem.W.mg_of X G a_l_mixed, F_l_mixed.binds fun _ _ _ _ _ _ us hl => match us, hl with | [_, _], _ => rfl⟩
  have F_l_take := fun_mk (st := s_l_take) l_l_take c_l_take k_l_take
  have D_l_take : Df K mg "_law_take" s_l_take ["_law_box_here", "_law_size"] := ⟨_, _, F_l_take, PySem.W.mg_of X G a_l_take, F_l_take.binds fun _ _ _ _ _ _ us hl => match us, hl with | [_, _], _ => rfl⟩
  have F_l_shuffled := fun_mk (st := s_l_shuffled) l_l_shuffled c_l_shuffled k_l_shuffled
  have D_l_shuffled : Df K mg "_law_shuffled" s_l_shuffled ["_law_box_here", "_law_things"] := ⟨_, _, F_l_shuffled, PySem.W.mg_of X G a_l_shuffled, F_l_shuffled.binds fun _ _ _ _ _ _ us hl => match us, hl with | [_, _], _ => rfl⟩
  have F_l_names := fun_mk (st := s_l_names) l_l_names c_l_names k_l_names
  have D_l_names : Df K mg "_law_names" s_l_names ["_law_box_here", "_law_many"] := ⟨_, _, F_l_names, PySem.W.mg_of X G a_l_names, F_l_names.binds fun _ _ _ _ _ _ us hl => match us, hl with | [_, _], _ => rfl⟩
  have F_l_shared := fun_mk (st := s_l_shared) l_l_shared c_l_shared k_l_shared
  have D_l_shared : Df K mg "_law_shared" s_l_shared ["_law_one", "_law_other"] := ⟨_, _, F_l_shared, PySem.W.mg_of X G a_l_shared, F_l_shared.binds fun _ _ _ _ _ _ us hl => match us, hl with | [_, _], _ => rfl⟩
  have F_l_ratio := fun_mk (st := s_l_ratio) l_l_ratio c_l_ratio k_l_ratio
  have D_l_ratio : Df K mg "_law_ratio" s_l_ratio ["_law_top", "_law_bottom"] := ⟨_, _, F_l_ratio, PySem.W.mg_of X G a_l_ratio, F_l_ratio.binds fun _ _ _ _ _ _ us hl => match us, hl with | [_, _], _ => rfl⟩
  have F_l_is_ratio := fun_mk (st := s_l_is_ratio) l_l_is_ratio c_l_is_ratio k_l_is_ratio
  have D_l_is_ratio : Df K mg "_law_is_ratio" s_l_is_ratio ["_law_value"] := ⟨_, _, F_l_is_ratio, PySem.W.mg_of X G a_l_is_ratio, F_l_is_ratio.binds fun _ _ _ _ _ _ us hl => match us, hl with | [_], _ => rfl⟩
  have F_l_number := fun_mk (st := s_l_number) l_l_number c_l_number k_l_number
  have D_l_number : Df K mg "_law_number" s_l_number ["_law_box_here"] := ⟨_, _, F_l_number, PySem.W.mg_of X G a_l_number, F_l_number.binds fun _ _ _ _ _ _ us hl => match us, hl with | [_], _ => rfl⟩
  have F_l_given := fun_mk (st := s_l_given) l_l_given c_l_given k_l_given
  have D_l_given : Df K mg "_law_given" s_l_given ["_law_box_here", "_law_number_here"] := ⟨_, _, F_l_given, PySem.W.mg_of X G a_l_given, F_l_given.binds fun _ _ _ _ _ _ us hl => match us, hl with | [_, _], _ => rfl⟩
  have F_l_form := fun_mk (st := s_l_form) l_l_form c_l_form k_l_form
  have D_l_form : Df K mg "_law_form" s_l_form ["_law_terms", "_law_constant"] := ⟨_, _, F_l_form, PySem.W.mg_of X G a_l_form, F_l_form.binds fun _ _ _ _ _ _ us hl => match us, hl with | [_, _], _ => rfl⟩
  have F_l_drawn_form := fun_mk (st := s_l_drawn_form) l_l_drawn_form c_l_drawn_form k_l_drawn_form
  have D_l_drawn_form : Df K mg "_law_drawn_form" s_l_drawn_form ["_law_box_here", "_law_names_here"] := ⟨_, _, F_l_drawn_form, PySem.W.mg_of X G a_l_drawn_form, F_l_drawn_form.binds fun _ _ _ _ _ _ us hl => match us, hl with | [_, _], _ => rfl⟩
  have F_l_bent_term := fun_mk (st := s_l_bent_term) l_l_bent_term c_l_bent_term k_l_bent_term
  have D_l_bent_term : Df K mg "_law_bent_term" s_l_bent_term ["_law_box_here", "_law_term"] := ⟨_, _, F_l_bent_term, PySem.W.mg_of X G a_l_bent_term, F_l_bent_term.binds fun _ _ _ _ _ _ us hl => match us, hl with | [_, _], _ => rfl⟩
  have F_l_bent_form := fun_mk (st := s_l_bent_form) l_l_bent_form c_l_bent_form k_l_bent_form
  have D_l_bent_form : Df K mg "_law_bent_form" s_l_bent_form ["_law_box_here", "_law_form_here"] := ⟨_, _, F_l_bent_form, PySem.W.mg_of X G a_l_bent_form, F_l_bent_form.binds fun _ _ _ _ _ _ us hl => match us, hl with | [_, _], _ => rfl⟩
  have F_l_is_name := fun_mk (st := s_l_is_name) l_l_is_name c_l_is_name k_l_is_name
  have D_l_is_name : Df K mg "_law_is_name" s_l_is_name ["_law_value"] := ⟨_, _, F_l_is_name, PySem.W.mg_of X G a_l_is_name, F_l_is_name.binds fun _ _ _ _ _ _ us hl => match us, hl with | [_], _ => rfl⟩
  have F_l_is_form := fun_mk (st := s_l_is_form) l_l_is_form c_l_is_form k_l_is_form
  have D_l_is_form : Df K mg "_law_is_form" s_l_is_form ["_law_value"] := ⟨_, _, F_l_is_form, PySem.W.mg_of X G a_l_is_form, F_l_is_form.binds fun _ _ _ _ _ _ us hl => match us, hl with | [_], _ => rfl⟩
  have F_law := fun_mk (st := s_law) l_law c_law k_law
  have D_law : Df K mg "law" s_law ["_law_script"] := ⟨_, _, F_law, PySem.W.mg_of X G a_law, F_law.binds fun _ _ _ _ _ _ us hl => match us, hl with | [_], _ => rfl⟩
  have ec_InvalidNumber : ExcC K C_InvalidNumber := ⟨ga_InvalidNumber, gg_InvalidNumber, sb_InvalidNumber, hd_InvalidNumber, ha_InvalidNumber, special, takes, hm_InvalidNumber⟩
  have ox_InvalidNumber : OexC K C_InvalidNumber := ⟨⟨nm_InvalidNumber, q_InvalidNumber, N_InvalidNumber, bs_InvalidNumber, _, sn_InvalidNumber, sub_InvalidNumber, ab_InvalidNumber, col_InvalidNumber, dd_InvalidNumber, m0_InvalidNumber, m1_InvalidNumber, m2_InvalidNumber, m3_InvalidNumber, m5_InvalidNumber, x_InvalidNumber, by show PySem.HandSPX.refsVE _ = true; rfl⟩, sa_InvalidNumber, sb_InvalidNumber, ty_InvalidNumber, kp_InvalidNumber⟩
  have Fi_InvalidNumber := fun_mk (st := s_InvalidNumber_init) l_InvalidNumber_init c_InvalidNumber_init k_InvalidNumber_init
  refine ⟨PySem.W.fnOf "law" "law" (defArgs s_law) (defBody s_law) (defScope s_law) .none kV_law dc_law pm_law an_law cd_law ct_law, fun s v => .of_eq rfl, fun base _ _ => ?_⟩
  have Tt : Ut4 K mg := ⟨PySem.W.mg_none_of X G n_str, PySem.W.mg_none_of X G n_set, PySem.W.mg_none_of X G n_sorted, w_FUNCTION_WORDS, w_ZERO, w_ONE, w_NAME_LETTERS⟩
  have K_mixed := ok_mixed (P := l.prog) (w := w) (base := base) D_l_mixed
  have K_shared := ok_shared (P := l.prog) (w := w) (base := base) T D_l_shared
  have K_take := ok_take T K_mixed D_l_take
  have K_box := ok_box (P := l.prog) (w := w) (base := base) D_l_box
  have K_lratio := ok_lratio K_shared D_l_ratio
  have K_num := ok_number K_take K_lratio D_l_number
  have K_given := ok_given K_take D_l_given
  have K_whole := ok_is_whole (P := l.prog) (w := w) (base := base) T D_is_whole
  have K_isr := ok_is_ratio T Tg K_whole D_is_ratio
  have E_inv : ErrF l.prog w K mg base "InvalidNumber" "value" C_InvalidNumber := ⟨PySem.W.mg_of X G aC_InvalidNumber, ox_InvalidNumber, ⟨ga_InvalidNumber, gg_InvalidNumber, sb_InvalidNumber, hd_InvalidNumber⟩, no_InvalidNumber, ec_InvalidNumber, ex_InvalidNumber,
    ⟨_, _, i_InvalidNumber, ti_InvalidNumber, ok_errinit Fi_InvalidNumber ox_InvalidNumber no_InvalidNumber, Fi_InvalidNumber.binds fun _ _ _ _ _ _ us hl => match us, hl with | [_, _], _ => rfl⟩⟩
  have K_as := ok_as_ratio T E_inv K_whole K_isr D_as_ratio
  have K_isname := ok_is_name (P := l.prog) (w := w) (base := base) T Tt D_is_name
  have K_isterm := ok_is_term T Tt K_isname K_isr D_is_term
  have K_isform := ok_is_form T Tt K_isterm K_isr D_is_form
  have K_const := ok_constant_form K_as D_constant_form
  have K_cell := ok_cell_form (P := l.prog) (w := w) (base := base) Tt D_cell_form
  have K_names := ok_names_in (P := l.prog) (w := w) (base := base) T D_names_in
  have K_lisr := ok_lis_ratio T K_shared D_l_is_ratio
  have K_lname := ok_lis_name (P := l.prog) (w := w) (base := base) T Tt D_l_is_name
  have K_lisform := ok_lis_form T Tt K_lname K_lisr D_l_is_form
  have K_lnames := ok_names T K_take D_l_names
  have K_shuf := ok_shuffled T K_take D_l_shuffled
  have K_lform := ok_lform (P := l.prog) (w := w) (base := base) T Tt D_l_form
  have K_drawn := ok_drawn T K_take K_shuf K_num K_lform D_l_drawn_form
  have K_bterm := ok_bent_term T K_take D_l_bent_term
  have K_bform := ok_bent_form T K_take K_lisr K_bterm D_l_bent_form
  exact ok_law T Tt K_box K_lnames K_drawn K_isform K_names K_take K_bform K_lisform K_num K_given K_const K_cell F_law

end Bs
open PySem PySem.W PyProof.Rows
set_option maxRecDepth 100000 in
set_option maxHeartbeats 0 in
theorem PySem.Challenge.cw_backsheet_k04_forms_checked_holds : PySem.Challenge.rw_backsheet_k04_forms_checked.Holds := by
  w_on; o_law; k_head; (case hw => w_witness2)
  k_fill
  refine Bs.walk (l := PySem.Challenge.rw_backsheet_k04_forms_checked) rfl rfl (fun w h Y => PySem.W.kIn_of Y) ?F
  case F =>
    intro w mg fa h KX G hmg
    refine' Bs.all_mk KX G hmg ?a_is_whole ?l_is_whole ?c_is_whole ?k_is_whole ?a_is_ratio ?l_is_ratio ?c_is_ratio ?k_is_ratio ?a_as_ratio ?l_as_ratio ?c_as_ratio ?k_as_ratio ?a_is_name ?l_is_name ?c_is_name ?k_is_name ?a_is_form ?l_is_form ?c_is_form ?k_is_form ?a_is_term ?l_is_term ?c_is_term ?k_is_term ?a_constant_form ?l_constant_form ?c_constant_form ?k_constant_form ?a_cell_form ?l_cell_form ?c_cell_form ?k_cell_form ?a_names_in ?l_names_in ?c_names_in ?k_names_in ?a_l_box ?l_l_box ?c_l_box ?k_l_box ?a_l_mixed ?l_l_mixed ?c_l_mixed ?k_l_mixed ?a_l_take ?l_l_take ?c_l_take ?k_l_take ?a_l_shuffled ?l_l_shuffled ?c_l_shuffled ?k_l_shuffled ?a_l_names ?l_l_names ?c_l_names ?k_l_names ?a_l_shared ?l_l_shared ?c_l_shared ?k_l_shared ?a_l_ratio ?l_l_ratio ?c_l_ratio ?k_l_ratio ?a_l_is_ratio ?l_l_is_ratio ?c_l_is_ratio ?k_l_is_ratio ?a_l_number ?l_l_number ?c_l_number ?k_l_number ?a_l_given ?l_l_given ?c_l_given ?k_l_given ?a_l_form ?l_l_form ?c_l_form ?k_l_form ?a_l_drawn_form ?l_l_drawn_form ?c_l_drawn_form ?k_l_drawn_form ?a_l_bent_term ?l_l_bent_term ?c_l_bent_term ?k_l_bent_term ?a_l_bent_form ?l_l_bent_form ?c_l_bent_form ?k_l_bent_form ?a_l_is_name ?l_l_is_name ?c_l_is_name ?k_l_is_name ?a_l_is_form ?l_l_is_form ?c_l_is_form ?k_l_is_form ?a_law ?l_law ?c_law ?k_law ?aC_SheetError ?aC_InvalidNumber ?special ?takes ?kS_InvalidNumber ?ga_InvalidNumber ?gg_InvalidNumber ?sb_InvalidNumber ?hd_InvalidNumber ?ha_InvalidNumber ?hm_InvalidNumber ?ty_InvalidNumber ?kp_InvalidNumber ?ex_InvalidNumber ?x_InvalidNumber ?sa_InvalidNumber ?no_InvalidNumber ?i_InvalidNumber ?ti_InvalidNumber ?l_InvalidNumber_init ?c_InvalidNumber_init ?k_InvalidNumber_init ?v_NAME_LETTERS ?aZ_FUNCTION_WORDS ?lZ_FUNCTION_WORDS ?aZ_ZERO ?lZ_ZERO ?aZ_ONE ?lZ_ONE ?n_len ?n_max ?n_abs ?n_any ?n_all ?n_isinstance ?n_range ?n_zip ?n_int ?n_bool ?n_tuple ?n_list ?n_str ?n_set ?n_sorted ?g_gcd
    (case a_is_whole => k_is)
    (case l_is_whole => k_is)
    (case c_is_whole => k_is)
    (case k_is_whole => k_is)
    (case a_is_ratio => k_is)
    (case l_is_ratio => k_is)
    (case c_is_ratio => k_is)
    (case k_is_ratio => k_is)
    (case a_as_ratio => k_is)
    (case l_as_ratio => k_is)
    (case c_as_ratio => k_is)
    (case k_as_ratio => k_is)
    (case a_is_name => k_is)
    (case l_is_name => k_is)
    (case c_is_name => k_is)
    (case k_is_name => k_is)
    (case a_is_form => k_is)
    (case l_is_form => k_is)
    (case c_is_form => k_is)
    (case k_is_form => k_is)
    (case a_is_term => k_is)
    (case l_is_term => k_is)
    (case c_is_term => k_is)
    (case k_is_term => k_is)
    (case a_constant_form => k_is)
    (case l_constant_form => k_is)
    (case c_constant_form => k_is)
    (case k_constant_form => k_is)
    (case a_cell_form => k_is)
    (case l_cell_form => k_is)
    (case c_cell_form => k_is)
    (case k_cell_form => k_is)
    (case a_names_in => k_is)
    (case l_names_in => k_is)
    (case c_names_in => k_is)
    (case k_names_in => k_is)
    (case a_l_box => k_is)
    (case l_l_box => k_is)
    (case c_l_box => k_is)
    (case k_l_box => k_is)
    (case a_l_mixed => k_is)
    (case l_l_mixed => k_is)
    (case c_l_mixed => k_is)
    (case k_l_mixed => k_is)
    (case a_l_take => k_is)
    (case l_l_take => k_is)
    (case c_l_take => k_is)
    (case k_l_take => k_is)
    (case a_l_shuffled => k_is)
    (case l_l_shuffled => k_is)
    (case c_l_shuffled => k_is)
    (case k_l_shuffled => k_is)
    (case a_l_names => k_is)
    (case l_l_names => k_is)
    (case c_l_names => k_is)
    (case k_l_names => k_is)
    (case a_l_shared => k_is)
    (case l_l_shared => k_is)
    (case c_l_shared => k_is)
    (case k_l_shared => k_is)
    (case a_l_ratio => k_is)
    (case l_l_ratio => k_is)
    (case c_l_ratio => k_is)
    (case k_l_ratio => k_is)
    (case a_l_is_ratio => k_is)
    (case l_l_is_ratio => k_is)
    (case c_l_is_ratio => k_is)
    (case k_l_is_ratio => k_is)
    (case a_l_number => k_is)
    (case l_l_number => k_is)
    (case c_l_number => k_is)
    (case k_l_number => k_is)
    (case a_l_given => k_is)
    (case l_l_given => k_is)
    (case c_l_given => k_is)
    (case k_l_given => k_is)
    (case a_l_form => k_is)
    (case l_l_form => k_is)
    (case c_l_form => k_is)
    (case k_l_form => k_is)
    (case a_l_drawn_form => k_is)
    (case l_l_drawn_form => k_is)
    (case c_l_drawn_form => k_is)
    (case k_l_drawn_form => k_is)
    (case a_l_bent_term => k_is)
    (case l_l_bent_term => k_is)
    (case c_l_bent_term => k_is)
    (case k_l_bent_term => k_is)
    (case a_l_bent_form => k_is)
    (case l_l_bent_form => k_is)
    (case c_l_bent_form => k_is)
    (case k_l_bent_form => k_is)
    (case a_l_is_name => k_is)
    (case l_l_is_name => k_is)
    (case c_l_is_name => k_is)
    (case k_l_is_name => k_is)
    (case a_l_is_form => k_is)
    (case l_l_is_form => k_is)
    (case c_l_is_form => k_is)
    (case k_l_is_form => k_is)
    (case a_law => k_is)
    (case l_law => k_is)
    (case c_law => k_is)
    (case k_law => k_is)
    (case aC_SheetError => k_is)
    (case aC_InvalidNumber => k_is)
    (case special => first | rfl | k_is)
    (case takes => first | rfl | k_is)
    (case kS_InvalidNumber => first | rfl | k_is)
    (case ga_InvalidNumber => k_is)
    (case gg_InvalidNumber => k_is)
    (case sb_InvalidNumber => k_is)
    (case hd_InvalidNumber => k_is)
    (case ha_InvalidNumber => k_is)
    (case hm_InvalidNumber => k_is)
    (case ty_InvalidNumber => k_is)
    (case kp_InvalidNumber => k_is)
    (case ex_InvalidNumber => first | rfl | k_is)
    (case x_InvalidNumber => k_is)
    (case sa_InvalidNumber => k_is)
    (case no_InvalidNumber => k_is)
    (case i_InvalidNumber => k_is)
    (case ti_InvalidNumber => k_is)
    (case l_InvalidNumber_init => k_is)
    (case c_InvalidNumber_init => k_is)
    (case k_InvalidNumber_init => k_is)
    (case v_NAME_LETTERS => k_is)
    (case aZ_FUNCTION_WORDS => k_is)
    (case lZ_FUNCTION_WORDS => k_is)
    (case aZ_ZERO => k_is)
    (case lZ_ZERO => k_is)
    (case aZ_ONE => k_is)
    (case lZ_ONE => k_is)
    (case n_len => k_is)
    (case n_max => k_is)
    (case n_abs => k_is)
    (case n_any => k_is)
    (case n_all => k_is)
    (case n_isinstance => k_is)
    (case n_range => k_is)
    (case n_zip => k_is)
    (case n_int => k_is)
    (case n_bool => k_is)
    (case n_tuple => k_is)
    (case n_list => k_is)
    (case n_str => k_is)
    (case n_set => k_is)
    (case n_sorted => k_is)
    (case g_gcd => k_is)
