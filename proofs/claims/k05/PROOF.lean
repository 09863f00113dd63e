import PyProof.Rows.All
import Wide.All
import OpenK.AllK
import Wide.FinOn
import HandS.ForMost
import HandS.Exc
import HandS.TryOnly
import HandS.ExcOwn
import HandS.WordsExc
import HandS.Wide
import HandS.Gcd
import HandS.IsInst
import HandS.EndBits
import HandS.Codes
import HandS.Flow
import HandS.TupAny
import HandS.Defaults
import HandS.Small
import HandS.NoneIn
import HandS.StrMore
import HandS.Style
import HandS.WideBits
import HandS.Replace
import HandS.Zip
import HandS.Walk
import HandS.ExcInit
import HandS.ExcField
import HandS.ExcIs

import HandS.SetTxt0
import HandS.Set
import HandS.SetFor
import HandS.More
import HandS.Strs
import KE.KDictPairs
import PySem.Challenge.RW_backsheet_k05_whole_forms_add_up
set_option Elab.async false
set_option linter.all false
set_option maxRecDepth 100000
set_option exponentiation.threshold 20000
namespace Bs
open PySem L2
/-! ### sets of texts, made of a list; their members in order -/
section
open PySem.Spec PyProof.Rows
variable {P : Program} {w : World} {A : Around} {E : Value → Shared → Prop} {s : Shared}
/-- the table of a payload rises, and its order is that of the texts or led -/
def Wkb (w : World) (D : Froz.SD) : Prop := Ris D.2.2.place.toList ∧ (w.params.followText "set-order" = true ∨ D.2.2.led = true)
theorem wkb_add {D : Froz.SD} (hs : Int) (x : Value) (k : Wkb w D) : Wkb w (Froz.addTx hs x D) := by
  obtain ⟨es, ep, t⟩ := D
  have rise := layNew_ris t es hs x k.1
  have lead := layNew_led t es hs x
  unfold Froz.addTx Froz.tailTx
  dsimp only
  generalize layNew t es hs x = N at rise lead ⊢
  obtain ⟨es', t', wd, gv⟩ := N
  dsimp only at rise lead ⊢
  have both : ∀ t2 : SetTable, t2.place = t'.place → t2.led = t'.led → Wkb w (if (!wd && t2.tooFull) = true then ((relayAll t2 es' (SetTable.grown es'.size)).1, ep + 2, (relayAll t2 es' (SetTable.grown es'.size)).2.1) else (es', ep + 1, t2)) := fun t2 e1 e2 => by
    split
    · exact ⟨relayAll_ris t2 es' _, k.2.imp id fun z => by show (relayAll t2 es' _).2.1.led = true; rw [relayAll_led, e2, lead]; exact z⟩
    · exact ⟨by show Ris t2.place.toList; rw [e1]; exact rise, k.2.imp id fun z => by show t2.led = true; rw [e2, lead]; exact z⟩
  by_cases pl : t'.plain = true
  · rw [if_pos pl]
    exact both _ rfl rfl
  · rw [if_neg pl]
    exact both _ rfl rfl
/-- the set at a holds the texts l, each once -/
def Txts (P : Program) (w : World) (h : Heap) (a : Addr) (l : List Str) : Prop := ∃ D, h.get? a = some (Froz.sObj "set" D) ∧ Froz.TxOk P w D l ∧ Wkb w D ∧ l.Nodup
theorem Txts.at {h h' : Heap} {a : Addr} {l : List Str} (x : Txts P w h a l) (k : ∀ o, h.get? a = some o → h'.get? a = some o) : Txts P w h' a l := by
  obtain ⟨D, ho, r⟩ := x
  exact ⟨D, k _ ho, r⟩
/-- one text more -/
def addOne (l : List Str) (k : Str) : List Str := if k ∈ l then l else k :: l
theorem addOne_mem {l : List Str} {k j : Str} : j ∈ addOne l k ↔ j = k ∨ j ∈ l := by
  unfold addOne
  split
  · rename_i c
    exact ⟨.inr, fun z => z.elim (fun e => e ▸ c) id⟩
  · exact List.mem_cons
theorem addOne_len (l : List Str) (k : Str) : (addOne l k).length ≤ l.length + 1 := by
  unfold addOne
  split
  · exact Nat.le_succ _
  · exact Nat.le_refl _
/-- a text that is there already -/
theorem add_known {a : Addr} {D : Froz.SD} {l : List Str} {k : Str} {u : Tok} {Q : Bool → Shared → Prop} (at0 : s.heap.get? a = some (Froz.sObj "set" D)) (F : Froz.TxOk P w D l) (known : k ∈ l) (few : l.length < scanBound) (done : Q false s) :
    wpAny (model P w) A (setAddHashed a (.str k u) (hashStr w k)) Q E s := by
  obtain ⟨es, ep, t⟩ := D
  have dat : (Froz.sObj "set" (es, ep, t)).data = .set es ep t := rfl
  have size : es.size < scanBound := by rw [show es.size = l.length from F.sz]; exact few
  obtain ⟨e, he, hk⟩ := (F.mem k).mp known
  unfold setAddHashed setAddHashedIn
  refine wpAny_holding (wpAny_bind (wpAny_setState_of at0 dat F.fit ?_))
  dsimp only
  rw [byScan_of (x := .str k u) rfl size F.el, if_pos rfl]
  unfold setAddByScan
  refine wpAny_bind (wpAny_bind (wpAny_rule (wpAny_bind (wpAny_setScan_of (knd := strKind P w) (k := k) (Froz.is_str k u) at0 dat F.fit F.el ?_))))
  cases seek : List.findIdx? (fun e => (strKind P w).is k e.2) es.toList with
  | none =>
    have no := List.findIdx?_eq_none_iff.mp seek e he
    rw [hk] at no
    cases no
  | some j =>
    dsimp only
    exact wpAny_pure (wpAny_pure done)
theorem txts_add {a : Addr} {l : List Str} {k : Str} {u : Tok} {Q : Bool → Shared → Prop} (x : Txts P w s.heap a l) (few : l.length + 1 < scanBound)
    (goal : ∀ b h', Heap.SameBut a s.heap h' → Txts P w h' a (addOne l k) → Q b { s with heap := h' }) : wpAny (model P w) A (setAddHashed a (.str k u) (hashStr w k)) Q E s := by
  obtain ⟨D, at0, F, kb, nd⟩ := x
  by_cases known : k ∈ l
  · refine add_known at0 F known (by omega) (goal false s.heap (Heap.SameBut.refl a s.heap) ⟨D, at0, ?_⟩)
    rw [show addOne l k = l from if_pos known]
    exact ⟨F, kb, nd⟩
  · refine Froz.add_x at0 F known few (goal true _ (Heap.SameBut.update s.heap a _) ⟨_, Froz.get_upd _ at0 rfl, ?_⟩)
    rw [show addOne l k = k :: l from if_neg known]
    exact ⟨Froz.add_ok u F, wkb_add _ _ kb, List.nodup_cons.mpr ⟨known, nd⟩⟩
end
section
open PySem.Spec PyProof.Rows
variable {P : Program} {w : World} {A : Around} {E : Value → Shared → Prop} {s : Shared}
/-- what a set holds behind the first i texts -/
def Held (P : Program) (w : World) (xs : List Str) (i : Nat) (h : Heap) (a : Addr) : Prop := ∃ l, l.length ≤ i ∧ (∀ k, k ∈ l ↔ k ∈ xs.take i) ∧ Txts P w h a l
theorem Held.at {xs : List Str} {i : Nat} {h h' : Heap} {a : Addr} (x : Held P w xs i h a) (k : ∀ o, h.get? a = some o → h'.get? a = some o) : Held P w xs i h' a := by
  obtain ⟨l, e1, e2, e3⟩ := x
  exact ⟨l, e1, e2, e3.at k⟩
theorem fill_txts {I : Addr} {fp wr : List Addr} {G : Array GenState → Array GenState → Prop} {n : Nat} {Pv : Nat → Value → Prop} {St : Nat → Shared → Prop} {R : Result → Shared → Prop}
    (W : WalksS P w A.in1 I fp wr G n Pv St) (a : Addr) (out : a ∉ fp) (xs : List Str) (len : xs.length = n) (few : n + 1 < scanBound) (item : ∀ i v, Pv i v → ∃ k t, xs[i]? = some k ∧ v = .str k t) :
    ∀ (left i : Nat) (s : Shared), i + left = n → St i s → Held P w xs i s.heap a → (∀ s', Moved (a :: wr) G s s' → Held P w xs n s'.heap a → R (.ok (.ret .none)) s') →
      codeAny (model P w) A (.builtin "set.update.loop" ⟨[.ref a, .ref I], []⟩) R s := by
  have outw : a ∉ wr := fun m => out (W.sub _ m)
  have wide : ∀ b ∈ wr, b ∈ a :: wr := fun b m => List.mem_cons_of_mem _ m
  intro left
  induction left with
  | zero =>
    intro i s sum st held fin
    obtain rfl : i = n := by omega
    refine (codeAny_builtin F.entry_set_update_loop ?_); rw [Around.under_plainId (id F.plain_set_update_loop)]
    refine wpAny_bind (show wpAny _ A.in1 (pyNext (.ref I)) _ _ s from W.done s _ _ st fun s' mv => wpAny_pure (fin s' (mv.mono wide) ?_))
    exact held.at fun o e => mv.heap a o outw e
  | succ left ih =>
    intro i s sum st held fin
    have lt : i < n := by omega
    refine (codeAny_builtin F.entry_set_update_loop ?_); rw [Around.under_plainId (id F.plain_set_update_loop)]
    refine wpAny_bind (show wpAny _ A.in1 (pyNext (.ref I)) _ _ s from W.item i s _ _ lt st fun v s1 pv st1 mv => ?_)
    obtain ⟨k, t, hk, rfl⟩ := item i v pv
    obtain ⟨l, few1, same, tx⟩ := held.at (h' := s1.heap) fun o e => mv.heap a o outw e
    refine wpAny_bind (show wpAny _ A.in1 (holding [Value.str k t] (setAdd a (.str k t))) _ _ s1 from wpAny_holding ?_)
    unfold setAdd
    refine wpAny_holding (wpAny_bind ((strKind P w).pyHash (k := k) (strKind_is _ _ _ _) ?_))
    refine txts_add (s := { s1 with toks := s1.toks + 1 }) tx (by omega) fun _ h2 but tx2 => wpAny_pure ⟨plainId_quiet F.plain_set_update_loop _, ?_⟩
    have oth : ∀ b o, b ≠ a → s1.heap.get? b = some o → h2.get? b = some o := fun b o ne e => (but.2 b ne).trans e
    refine ih (i + 1) _ (by omega) (W.frame _ s1 _ _ st1 (Nat.le_succ _) fun b m o e => oth b o (fun z => out (z ▸ m)) e) ⟨_, Nat.le_trans (addOne_len l k) (by omega), fun j => ?_, tx2⟩ fun s3 mv3 held3 => ?_
    · rw [addOne_mem, same, List.take_add_one, hk, List.mem_append, Option.toList_some, List.mem_singleton]
      exact Or.comm
    · exact fin s3 (Moved.trans W.gtrans ((mv.mono wide).then_heap (Nat.le_succ _) fun b o m e => oth b o (fun z => m (z ▸ List.mem_cons_self ..)) e) mv3) held3
end

section
open PySem.Spec PyProof.Rows
variable {P : Program} {w : World} {A : Around} {E : Value → Shared → Prop} {s : Shared}
/-- an empty set as set.__new__ leaves it -/
abbrev bare (w : World) : Obj := { cls := .type "set", dict := none, data := .set #[] 0 (.fresh 0 0 (!w.params.followText "set-order")) }
theorem bare_txts {h : Heap} {a : Addr} (e : h.get? a = some (bare w)) (xs : List Str) : Held P w xs 0 h a := by
  refine ⟨[], Nat.le_refl _, fun k => by rw [List.take_zero], (#[], 0, .fresh 0 0 (!w.params.followText "set-order")), e, Froz.TxOk.nil (by rfl), ⟨List.Pairwise.nil, ?_⟩, List.nodup_nil⟩
  show _ ∨ (!w.params.followText "set-order") = true
  cases w.params.followText "set-order" <;> simp
set_option maxHeartbeats 3200000 in
theorem set_of_list {l : Addr} {items : Array Value} {xs : List Str} {Q : Value → Shared → Prop} (nh : A.handled = none) (isl : s.heap.IsList l items) (txt : StrsAre items.toList xs) (few : xs.length + 1 < scanBound)
    (goal : ∀ h' tk, Held P w xs xs.length h' s.heap.objs.size → (∀ b o, s.heap.get? b = some o → h'.get? b = some o) → Q (.ref s.heap.objs.size) { s with heap := h', toks := tk }) :
    wpAny (model P w) A (call (.type "set") [.ref l]) Q E s := by
  have len : xs.length = items.size := by rw [← StrsAre.len_eq txt, Array.length_toList]
  have item : ∀ (i : Nat) (v : Value), items[i]? = some v → ∃ k t, xs[i]? = some k ∧ v = .str k t := fun i v e => by
    have lt : i < xs.length := by rw [len]; exact (Array.getElem?_eq_some_iff.mp e).1
    obtain ⟨t, z⟩ := SS.strs_at txt i v (by rw [Array.getElem?_toList]; exact e)
    exact ⟨xs[i], t, List.getElem?_eq_getElem lt, by rw [z, List.getD_eq_getElem?_getD, List.getElem?_eq_getElem lt]; rfl⟩
  obtain ⟨c0, c1, c2⟩ := PySem.F.called_set.mro
  have c3 := PySem.F.called_set.made
  have c4 := PySem.F.called_set.sub
  have c5 := PySem.F.called_set.notType
  have c6 := PySem.F.called_set.canCreate
  have c7 := PySem.F.typeCall_set_1 (.ref l)
  refine wpAny_call (codeAny_of_tree (show wpAny _ _ (callAny (.type "set") _) _ _ _ from wpAny_pure ⟨Code.quiet_builtin _ (by decide +kernel), codeAny_builtin PySem.F.entry_type_call ?_⟩))
  rw [Around.under_plain (weight_type_call_type "set" [Value.ref l] []) rfl]
  repeat (any_goals (first | assumption | wp_step))
  refine codeAny_mono (code_set_led1 (P := P) (w := w) (Value.ref l) (E := E) (Q₁ := fun o s1 => o = .ref s.heap.objs.size ∧ s1 = { s with heap := s.heap.push (bare w) }) ⟨rfl, rfl⟩) fun r1 s1 hr => ?_
  cases r1 with
  | error e => exact hr
  | ok fl =>
    cases fl with
    | ret o =>
      obtain ⟨rfl, rfl⟩ := hr
      have new : (s.heap.push (bare w)).get? s.heap.objs.size = some (bare w) := Heap.get?_push_size _ rfl
      have ty : Shared.TypeIs { s with heap := s.heap.push (bare w) } (.ref s.heap.objs.size) "set" := ⟨_, new, rfl⟩
      have d1 := PySem.F.called_set.init.lookup
      have d2 := PySem.F.called_set.init.bind (.ref s.heap.objs.size)
      repeat (any_goals (first | assumption | wp_step))
      refine codeAny_mono (codeAny_call_builtin (R := wants (fun r s2 => r = .none ∧ ∃ h' tk, s2 = { s with heap := h', toks := tk } ∧ Held P w xs xs.length h' s.heap.objs.size ∧ (∀ b o, s.heap.get? b = some o → h'.get? b = some o)) E)
        PySem.F.called_set.init.plain PySem.F.entry_set_init (check_set_init_1 ty ?_)) fun r2 s2 h2 => ?_
      · obtain ⟨⟨oc, od, odat, osl⟩, at0, oc0, nl, od0⟩ := isl
        simp only at oc0 od0
        subst oc0 od0
        have at1 : (s.heap.push (bare w)).get? l = some { cls := .type "list", dict := od, data := .seq items nl, slots := osl } := Heap.get?_push_of_some _ at0
        have e1 := PySem.F.sub_list_set
        have e2 := PySem.F.sub_list_frozenset
        have e3 : (Value.type "list" == Value.type "dict") = false := by decide
        have is1 : (s.heap.push (bare w)).IsList l items := ⟨_, at1, rfl, nl, rfl⟩
        have below : l < s.heap.objs.size := Heap.lt_size at0
        have size1 : (s.heap.push (bare w)).objs.size = s.heap.objs.size + 1 := Heap.size_push ..
        unfold Builtin.«set.__init__» noKeywords Builtin.Frozenset.updateFrom
        generalize keep : pyIter = it0
        wp_walk
        subst keep
        refine wpAny_pyIter_list is1 (wpAny_bind (wpAny_runValue ?_))
        have nh3 : A.in1.in1.in1.handled = none := nh
        have apart : l ≠ (s.heap.push (bare w)).objs.size := by rw [size1]; exact Nat.ne_of_lt (Nat.lt_succ_of_lt below)
        refine fill_txts ((Walks.list nh3 _ l apart items).toS) s.heap.objs.size (fun m => ?_) xs len (by omega) item items.size 0 _ (Nat.zero_add _) ⟨⟨_, Heap.get?_push_size _ rfl, rfl, rfl⟩, (is1.push _)⟩ ?h0 ?hR
        · rcases List.mem_cons.mp m with z | z
          · rw [size1] at z
            exact absurd z (Nat.ne_of_lt (Nat.lt_succ_self _))
          · exact absurd (List.mem_singleton.mp z) (Nat.ne_of_gt below)
        case h0 => exact bare_txts (Heap.get?_push_of_some _ new) xs
        case hR =>
          intro s3 mv held
          obtain ⟨h3, g3, d3, t3, o3⟩ := s3
          obtain rfl : g3 = s.gens := mv.gens
          obtain rfl : d3 = s.drawn := mv.drawn
          obtain rfl : o3 = s.os := mv.os
          refine wpAny_pure (show wpAny _ _ (ret Value.none) _ _ _ from wpAny_pure ⟨rfl, h3, t3, rfl, by rw [len]; exact held, fun b o e => ?_⟩)
          have bl : b < s.heap.objs.size := Heap.lt_size e
          refine mv.heap b o (fun m => ?_) (Heap.get?_push_of_some _ (Heap.get?_push_of_some _ e))
          rcases List.mem_cons.mp m with z | z
          · exact absurd z (Nat.ne_of_lt bl)
          · have z2 := List.mem_singleton.mp z
            rw [size1] at z2
            exact absurd z2 (Nat.ne_of_lt (Nat.lt_succ_of_lt bl))
      · cases r2 with
        | error e => exact h2
        | ok f2 =>
          cases f2 with
          | ret v2 =>
            obtain ⟨rfl, h3, t3, rfl, held, kept⟩ := h2
            repeat (any_goals (first | assumption | wp_step))
            exact goal _ _ held kept
          | _ => exact h2.elim
    | _ => exact hr.elim
end

section
open PySem.Spec PyProof.Rows
/-- the set of texts at a: each of xs, nothing else -/
def SetT (P : Program) (w : World) (a : Addr) (xs : List Str) : HO := .ext fun h => Held P w xs xs.length h a
theorem setT_new {P : Program} {w : World} {H : Hp} {h : Heap} {a : Addr} {xs : List Str} (x : Held P w xs xs.length h a) : ObjOk P w H h a (SetT P w a xs) := by
  obtain ⟨l, _, _, D, at0, _⟩ := id x
  exact ⟨x, ⟨_, at0⟩, fun h1 h2 p k => p.at k⟩
theorem perm_rest {α : Type} [BEq α] [LawfulBEq α] : ∀ {l ks : List α}, l.Nodup → (∀ k, k ∈ l → k ∈ ks) → ∃ r, ks.Perm (l ++ r)
  | [], ks, _, _ => ⟨ks, List.Perm.refl _⟩
  | x :: l, ks, nd, inn => by
    obtain ⟨n1, n2⟩ := List.nodup_cons.mp nd
    obtain ⟨r, p⟩ := perm_rest (ks := ks.erase x) n2 fun k hk => (List.mem_erase_of_ne (fun e => n1 (by rw [← e]; exact hk))).mpr (inn k (List.mem_cons_of_mem _ hk))
    exact ⟨r, (List.perm_cons_erase (inn x (List.mem_cons_self ..))).trans (p.cons x)⟩
theorem all_txt : ∀ (vs : List Value) (l : List Str), (∀ v ∈ vs, ∃ k u, v = Value.str k u) → (∀ k ∈ l, ∃ u, Value.str k u ∈ vs) → ∃ ks, StrsAre vs ks ∧ ∀ k, k ∈ l → k ∈ ks := fun vs l all inn => by
  have key : ∀ vs : List Value, (∀ v ∈ vs, ∃ k u, v = Value.str k u) → ∃ ks, StrsAre vs ks ∧ ∀ k u, Value.str k u ∈ vs → k ∈ ks := by
    intro vs
    induction vs with
    | nil => exact fun _ => ⟨[], .nil, fun k u m => by cases m⟩
    | cons v vs ih =>
      intro all
      obtain ⟨ks, t, m⟩ := ih fun v hv => all v (List.mem_cons_of_mem _ hv)
      obtain ⟨k, u, rfl⟩ := all v (List.mem_cons_self ..)
      refine ⟨k :: ks, .cons k u t, fun j u2 mj => ?_⟩
      rcases List.mem_cons.mp mj with z | z
      · injection z with z1
        rw [z1]
        exact List.mem_cons_self ..
      · exact List.mem_cons_of_mem _ (m j u2 z)
  obtain ⟨ks, t, m⟩ := key vs all
  exact ⟨ks, t, fun k hk => by
    obtain ⟨u, z⟩ := inn k hk
    exact m k u z⟩
variable {X : Cx}
/-- set(a list of texts) -/
def rSetTxt (K : PySem.W.Frag) (P : Program) (w : World) : List V → Hp → VK → Prop := fun vs H Q => ∃ (a : Addr) (xs : List Str), vs = [.ref a] ∧ SqL K H a (xs.map V.str) ∧ xs.length < 1000 ∧ ∀ p, H p = none → Q (.ref p) (upd H p (SetT P w p xs))
theorem cr_setTxt (calm : X.calm = true) : CallR X (.type "set") (rSetTxt X.K X.prog X.w) := by
  intro pins s σ H vs us Q I r q
  obtain ⟨a, xs, rfl, hs, few, q⟩ := q
  rw [Vals.ref1 r]
  obtain ⟨its, rv, pl, _⟩ := I.list hs
  refine set_of_list (I.ok.hd calm) pl.isList (by simpa using strsAre_of rv) (Nat.lt_of_lt_of_le (Nat.succ_lt_succ few) (by unfold scanBound; decide)) fun h' tk held kept => ?_
  exact ⟨.ref _, _, I.laid (t' := tk) kept (Nat.le_refl _) (setT_new held), rfl, q _ (I.hok.fresh (Nat.le_refl _))⟩
/-- sorted(that set) -/
def rSortTxt (P : Program) (w : World) : List V → Hp → VK → Prop := fun vs H Q => ∃ (a : Addr) (xs : List Str), vs = [.ref a] ∧ H a = some (SetT P w a xs) ∧ xs.length < 64 ∧
  ∀ (ys : List Str) p, ys.Nodup → (∀ k, k ∈ ys ↔ k ∈ xs) → sortedS ys = true → H p = none → Q (.ref p) (upd H p (.lst (ys.map V.str)))
theorem cr_sortTxt (calm : X.calm = true) : CallR X (.builtin "sorted") (rSortTxt X.prog X.w) := by
  intro pins s σ H vs us Q I r q
  obtain ⟨a, xs, rfl, at0, few, q⟩ := q
  rw [Vals.ref1 r]
  obtain ⟨l, len, same, D, set0, F, kb, nd⟩ := (I.hok a _ at0).1
  rw [List.take_length] at same
  obtain ⟨es, ep, t⟩ := D
  have size : es.size = l.length := F.sz
  have few2 : l.length < 64 := by omega
  refine Calls.call_function_entry kind_sorted plain_sorted entry_sorted (args_sorted1 _) ?_
  unfold Builtin.«sorted»
  refine wpAny_bind (show wpAny _ _ (checkCount "sorted" 1 1 _) _ _ _ from wpAny_pure (wpAny_bind (collect_set (A := X.A.in1) (I.ok.hd calm) ⟨_, set0, rfl, rfl⟩ F.fit (by rw [size]; unfold scanBound; omega) kb.1 kb.2 fun s1 vs kept grow gens os pm => ?_)))
  obtain ⟨ks, txt, pk⟩ : ∃ ks, StrsAre vs ks ∧ ks.Perm l := by
    obtain ⟨ks, txt, inn⟩ : ∃ ks, StrsAre vs ks ∧ ∀ k, k ∈ l → k ∈ ks := by
      refine all_txt vs l (fun v hv => ?_) fun k hk => ?_
      · obtain ⟨e, he, ev⟩ := List.mem_map.mp (pm.mem_iff.mp hv)
        obtain ⟨⟨k, hk, _⟩, _⟩ := F.el e he
        obtain ⟨u, z⟩ := Value.isStrOf_shape hk
        exact ⟨k, u, by rw [← ev]; exact z⟩
      · obtain ⟨e, he, z⟩ := (F.mem k).mp hk
        obtain ⟨u, ev⟩ := Value.isStrOf_shape z
        exact ⟨u, pm.mem_iff.mpr (List.mem_map.mpr ⟨e, he, ev⟩)⟩
    obtain ⟨r, pr⟩ := perm_rest nd inn
    have : ks.length = l.length := by rw [← StrsAre.len_eq txt, pm.length_eq, List.length_map, Array.length_toList, size]
    have : r = [] := by
      have z := pr.length_eq
      rw [List.length_append] at z
      exact List.length_eq_zero_iff.mp (by omega)
    rw [this, List.append_nil] at pr
    exact ⟨ks, txt, pr⟩
  have lv : vs.length = l.length := by rw [StrsAre.len_eq txt, pk.length_eq]
  refine wpAny_bind (wpAny_newList ?_ (by rw [lv, sizeLine_eq]; omega))
  have atL : (s1.heap.push (seqObj "list" vs.toArray 0)).get? s1.heap.objs.size = some (seqObj "list" vs.toArray 0) := Heap.get?_push_size _ rfl
  refine wpAny_bind (wpAny_holding (wpAny_call_entry slot_list_sort ⟨_, atL, rfl⟩ entry_list_sort
    (list_sort_treeK strKind_oneLt atL txt.keysOf (fun v1 v2 rest e => keyKind_strs (by rw [← e]; exact txt)) (by rw [lv]; exact few2) fun st ps so => ⟨_, rfl, ?_⟩) (args_list_sort _)))
  obtain ⟨ys, y1, y2, y3⟩ := sorted_out_str txt ps so
  obtain ⟨c, at2⟩ := sortedHeap_at (vs := vs) (out := (arrOf st).map (·.2)) atL
  have yl := y2.trans pk
  refine wpAny_pure ⟨_, rfl, ?_⟩
  have old : ∀ b o, s.heap.get? b = some o → (sortedHeap (s1.heap.push (seqObj "list" vs.toArray 0)) s1.heap.objs.size vs ((arrOf st).map (·.2))).get? b = some o := fun b o e => by
    have lt := Heap.lt_size (kept b o e)
    rw [sortedHeap_old (Nat.ne_of_lt lt) (by rw [size_push']; exact Nat.lt_succ_of_lt lt)]
    exact Heap.get?_push_of_some _ (kept b o e)
  show EP X pins σ Q _ { s1 with heap := sortedHeap (s1.heap.push (seqObj "list" vs.toArray 0)) s1.heap.objs.size vs ((arrOf st).map (·.2)) }
  generalize sortedHeap (s1.heap.push (seqObj "list" vs.toArray 0)) s1.heap.objs.size vs ((arrOf st).map (·.2)) = hp at at2 old ⊢
  have fresh := I.hok.fresh grow
  have fits : (ys.map V.str).length ≤ sizeLine := by rw [List.length_map, yl.length_eq]; exact Nat.le_trans (Nat.le_of_lt few2) (by decide)
  have J : Inv X pins σ (upd H s1.heap.objs.size (.lst (ys.map V.str))) { s with heap := hp, gens := s1.gens, drawn := s1.drawn, toks := s1.toks } :=
    I.call (ch := []) (Un.laid old grow fresh) (I.hok.laid old grow ⟨fits, _, c, vals_of_strs y1, by rw [Array.toArray_toList]; exact at2⟩) (by rw [gens]; exact I.bare) (fun _ z => nomatch z)
  have whole : ({ s1 with heap := hp } : Shared) = { s with heap := hp, gens := s1.gens, drawn := s1.drawn, toks := s1.toks } := by
    cases s1
    cases s
    cases os
    rfl
  rw [whole]
  exact ⟨.ref _, _, J, rfl, q ys _ (yl.nodup_iff.mpr nd) (fun k => by rw [yl.mem_iff, same]) y3 fresh⟩
end

/-! ### names: small letters; lists of texts in order -/
section
open PySem.Spec PyProof.Rows
def az (c : Nat) : Bool := decide (97 ≤ c) && decide (c ≤ 122)
def nameL (l : List Nat) : Bool := decide (l ≠ []) && decide (l.length < 9) && l.all az && decide (l ≠ [115, 117, 109]) && decide (l ≠ [97, 118, 101, 114, 97, 103, 101])
theorem alphaC : ∀ c : Nat, c < 128 → Unicode.isAlpha c = (az c || (decide (65 ≤ c) && decide (c ≤ 90))) := by decide +kernel
theorem lowerC : ∀ c : Nat, c < 128 → Unicode.isLower c = az c := by decide +kernel
theorem upperC : ∀ c : Nat, c < 128 → (Unicode.isUpper c || Unicode.isTitle c) = (decide (65 ≤ c) && decide (c ≤ 90)) := by decide +kernel
theorem az_ascii {c : Nat} (h : az c = true) : c < 128 := by
  unfold az at h
  rw [Bool.and_eq_true, decide_eq_true_eq, decide_eq_true_eq] at h
  omega
/-- the three checks of a text's signs -/
theorem small_signs (l : List Nat) : (if l.all (· < 128) = true then (if (decide (0 < l.length) && l.all Unicode.isAlpha) = true then (l.any Unicode.isLower && !l.any fun c => Unicode.isUpper c || Unicode.isTitle c) else false) else false) = (decide (l ≠ []) && l.all az) := by
  by_cases h : l.all (· < 128) = true
  · rw [if_pos h]
    have asc : ∀ c ∈ l, c < 128 := fun c hc => by
      have := List.all_eq_true.mp h c hc
      simpa using this
    rw [Bool.eq_iff_iff]
    constructor
    · intro z
      split at z
      · rename_i z1
        rw [Bool.and_eq_true, decide_eq_true_eq] at z1
        rw [Bool.and_eq_true, Bool.not_eq_true'] at z
        rw [Bool.and_eq_true, decide_eq_true_eq]
        refine ⟨fun e => by rw [e] at z1; exact absurd z1.1 (by decide), List.all_eq_true.mpr fun c hc => ?_⟩
        have a1 := List.all_eq_true.mp z1.2 c hc
        rw [alphaC c (asc c hc), Bool.or_eq_true] at a1
        rcases a1 with a1 | a1
        · exact a1
        · have a2 := List.any_eq_false.mp z.2 c hc
          rw [upperC c (asc c hc)] at a2
          exact absurd a1 a2
      · cases z
    · intro z
      rw [Bool.and_eq_true, decide_eq_true_eq] at z
      obtain ⟨ne, all⟩ := z
      have al := List.all_eq_true.mp all
      have p1 : (decide (0 < l.length) && l.all Unicode.isAlpha) = true := by
        rw [Bool.and_eq_true, decide_eq_true_eq]
        refine ⟨List.length_pos_iff.mpr ne, List.all_eq_true.mpr fun c hc => ?_⟩
        rw [alphaC c (asc c hc), al c hc]
        rfl
      rw [if_pos p1, Bool.and_eq_true, Bool.not_eq_true']
      obtain ⟨c, r, rfl⟩ : ∃ c r, l = c :: r := by
        cases l with
        | nil => exact absurd rfl ne
        | cons c r => exact ⟨c, r, rfl⟩
      refine ⟨?_, List.any_eq_false.mpr fun d hd => ?_⟩
      · rw [List.any_cons, lowerC c (asc c (List.mem_cons_self ..)), al c (List.mem_cons_self ..)]
        rfl
      · rw [upperC d (asc d hd)]
        have := al d hd
        unfold az at this
        rw [Bool.and_eq_true, decide_eq_true_eq, decide_eq_true_eq] at this
        rw [Bool.and_eq_true, decide_eq_true_eq, decide_eq_true_eq]
        omega
  · rw [if_neg h]
    symm
    rw [Bool.and_eq_false_iff]
    refine .inr ?_
    rw [Bool.eq_false_iff]
    intro z
    refine h (List.all_eq_true.mpr fun c hc => ?_)
    rw [decide_eq_true_eq]
    exact az_ascii (List.all_eq_true.mp z c hc)
/-- the order of texts -/
def leS (x y : Str) : Prop := ¬ y.cps.toList < x.cps.toList
theorem leS_anti {x y : Str} (a : leS x y) (b : leS y x) : x = y := by
  have e : x.cps.toList = y.cps.toList := List.le_antisymm (List.not_lt.mp a) (List.not_lt.mp b)
  cases x
  cases y
  congr
  exact Array.toList_inj.mp e
theorem leS_trans {x y z : Str} (a : leS x y) (b : leS y z) : leS x z := List.not_lt.mpr (List.le_trans (List.not_lt.mp a) (List.not_lt.mp b))
theorem rising_pw : ∀ (l : List Str) (x : Str), risingS x l = true → (x :: l).Pairwise leS
  | [], x, _ => List.pairwise_singleton _ _
  | y :: l, x, h => by
    have h2 : (!ltCps y.cps.toList x.cps.toList && risingS y l) = true := h
    rw [Bool.and_eq_true, Bool.not_eq_true', ltCps_eq, decide_eq_false_iff_not] at h2
    have ih := rising_pw l y h2.2
    refine List.pairwise_cons.mpr ⟨fun z hz => ?_, ih⟩
    rcases List.mem_cons.mp hz with rfl | hz
    · exact h2.1
    · exact leS_trans h2.1 ((List.pairwise_cons.mp ih).1 z hz)
theorem sorted_pw {l : List Str} (h : sortedS l = true) : l.Pairwise leS := by
  cases l with
  | nil => exact List.Pairwise.nil
  | cons x l => exact rising_pw l x h
theorem pw_uniq : ∀ {l m : List Str}, l.Pairwise leS → m.Pairwise leS → l.Nodup → m.Nodup → (∀ k, k ∈ l ↔ k ∈ m) → l = m
  | [], [], _, _, _, _, _ => rfl
  | [], y :: m, _, _, _, _, h => absurd ((h y).mpr (List.mem_cons_self ..)) (by simp)
  | x :: l, [], _, _, _, _, h => absurd ((h x).mp (List.mem_cons_self ..)) (by simp)
  | x :: l, y :: m, p, q, n, o, h => by
    obtain ⟨p1, p2⟩ := List.pairwise_cons.mp p
    obtain ⟨q1, q2⟩ := List.pairwise_cons.mp q
    obtain ⟨n1, n2⟩ := List.nodup_cons.mp n
    obtain ⟨o1, o2⟩ := List.nodup_cons.mp o
    have e : x = y := by
      rcases List.mem_cons.mp ((h x).mp (List.mem_cons_self ..)) with z | z
      · exact z
      · rcases List.mem_cons.mp ((h y).mpr (List.mem_cons_self ..)) with u | u
        · exact u.symm
        · exact leS_anti (p1 y u) (q1 x z)
    subst e
    rw [pw_uniq p2 q2 n2 o2 fun k => ?_]
    constructor
    · intro hk
      rcases List.mem_cons.mp ((h k).mp (List.mem_cons_of_mem _ hk)) with z | z
      · exact absurd hk (by rw [z]; exact n1)
      · exact z
    · intro hk
      rcases List.mem_cons.mp ((h k).mpr (List.mem_cons_of_mem _ hk)) with z | z
      · exact absurd hk (by rw [z]; exact o1)
      · exact z
/-- in order, each once -/
def inOrder (l : List Str) : Bool := decide l.Nodup && sortedS l
theorem order_is {l m : List Str} (nd : m.Nodup) (same : ∀ k, k ∈ m ↔ k ∈ l) (so : sortedS m = true) : decide (l = m) = inOrder l := by
  unfold inOrder
  rw [Bool.eq_iff_iff, decide_eq_true_eq, Bool.and_eq_true, decide_eq_true_eq]
  constructor
  · intro e
    rw [e]
    exact ⟨nd, so⟩
  · rintro ⟨n, s⟩
    exact pw_uniq (sorted_pw s) (sorted_pw so) n nd fun k => (same k).symm
end

end Bs
namespace Bs
open PySem
def top (i : Nat) : Stmt := PySem.Challenge.pw_backsheet_k05_whole_forms_add_up.main.body.getD i (.Pass ⟨0, 0, 0, 0⟩)
open L2
abbrev s_InvalidNumber_init : Stmt := inClass (top 4) 0
theorem sc_InvalidNumber_init : FnScope ["self", "value"] ["self", "value"] (defScope s_InvalidNumber_init) := ⟨rfl, rfl, rfl, by decide +kernel, rfl, by decide +kernel, by decide +kernel⟩
abbrev s_UnknownCell_init : Stmt := inClass (top 5) 0
theorem sc_UnknownCell_init : FnScope ["self", "name"] ["self", "name"] (defScope s_UnknownCell_init) := ⟨rfl, rfl, rfl, by decide +kernel, rfl, by decide +kernel, by decide +kernel⟩
abbrev s_is_whole : Stmt := top 8
theorem sc_is_whole : FnScope ["value"] ["value"] (defScope s_is_whole) := ⟨rfl, rfl, rfl, by decide +kernel, rfl, by decide +kernel, by decide +kernel⟩
abbrev s_is_ratio : Stmt := top 9
theorem sc_is_ratio : FnScope ["value", "top", "bottom"] ["value"] (defScope s_is_ratio) := ⟨rfl, rfl, rfl, by decide +kernel, rfl, by decide +kernel, by decide +kernel⟩
abbrev s_as_ratio : Stmt := top 10
theorem sc_as_ratio : FnScope ["value"] ["value"] (defScope s_as_ratio) := ⟨rfl, rfl, rfl, by decide +kernel, rfl, by decide +kernel, by decide +kernel⟩
abbrev s_ratio : Stmt := top 11
theorem sc_ratio : FnScope ["top", "bottom", "common"] ["top", "bottom"] (defScope s_ratio) := ⟨rfl, rfl, rfl, by decide +kernel, rfl, by decide +kernel, by decide +kernel⟩
abbrev s_add_ratios : Stmt := top 12
theorem sc_add_ratios : FnScope ["one", "other", "one_top", "one_bottom", "other_top", "other_bottom"] ["one", "other"] (defScope s_add_ratios) := ⟨rfl, rfl, rfl, by decide +kernel, rfl, by decide +kernel, by decide +kernel⟩
abbrev s_multiply_ratios : Stmt := top 13
theorem sc_multiply_ratios : FnScope ["one", "other", "one_top", "one_bottom", "other_top", "other_bottom"] ["one", "other"] (defScope s_multiply_ratios) := ⟨rfl, rfl, rfl, by decide +kernel, rfl, by decide +kernel, by decide +kernel⟩
abbrev s_is_name : Stmt := top 17
theorem sc_is_name : FnScope ["value"] ["value"] (defScope s_is_name) := ⟨rfl, rfl, rfl, by decide +kernel, rfl, by decide +kernel, by decide +kernel⟩
abbrev s_is_form : Stmt := top 18
theorem sc_is_form : FnScope ["value", "terms", "constant", "names", "term", "name", "_"] ["value"] (defScope s_is_form) := ⟨rfl, rfl, rfl, by decide +kernel, rfl, by decide +kernel, by decide +kernel⟩
abbrev s_is_term : Stmt := top 19
theorem sc_is_term : FnScope ["value", "name", "factor"] ["value"] (defScope s_is_term) := ⟨rfl, rfl, rfl, by decide +kernel, rfl, by decide +kernel, by decide +kernel⟩
abbrev s_constant_form : Stmt := top 20
theorem sc_constant_form : FnScope ["number"] ["number"] (defScope s_constant_form) := ⟨rfl, rfl, rfl, by decide +kernel, rfl, by decide +kernel, by decide +kernel⟩
abbrev s_factor_in : Stmt := top 21
theorem sc_factor_in : FnScope ["form", "name"] ["form", "name"] (defScope s_factor_in) := ⟨rfl, rfl, rfl, by decide +kernel, rfl, by decide +kernel, by decide +kernel⟩
abbrev s_add_forms : Stmt := top 22
theorem sc_add_forms : FnScope ["one", "other", "one_terms", "one_constant", "other_terms", "other_constant", "factors", "name", "factor", "terms"] ["one", "other"] (defScope s_add_forms) := ⟨rfl, rfl, rfl, by decide +kernel, rfl, by decide +kernel, by decide +kernel⟩
abbrev s_scale_form : Stmt := top 23
theorem sc_scale_form : FnScope ["number", "form", "scale", "terms", "constant", "scaled", "name", "factor"] ["number", "form"] (defScope s_scale_form) := ⟨rfl, rfl, rfl, by decide +kernel, rfl, by decide +kernel, by decide +kernel⟩
abbrev s_substituted : Stmt := top 24
theorem sc_substituted : FnScope ["form", "name", "other", "terms", "constant", "factor", "rest", "term"] ["form", "name", "other"] (defScope s_substituted) := ⟨rfl, rfl, rfl, by decide +kernel, rfl, by decide +kernel, by decide +kernel⟩
abbrev s_value_at : Stmt := top 25
theorem sc_value_at : FnScope ["form", "values", "numbers", "terms", "total", "name", "factor"] ["form", "values"] (defScope s_value_at) := ⟨rfl, rfl, rfl, by decide +kernel, rfl, by decide +kernel, by decide +kernel⟩
abbrev s_l_box : Stmt := top 27
theorem sc_l_box : FnScope ["_law_script", "_law_great", "_law_cell"] ["_law_script"] (defScope s_l_box) := ⟨rfl, rfl, rfl, by decide +kernel, rfl, by decide +kernel, by decide +kernel⟩
abbrev s_l_mixed : Stmt := top 28
theorem sc_l_mixed : FnScope ["_law_cell", "_law_k", "_law_whole"] ["_law_cell", "_law_k"] (defScope s_l_mixed) := ⟨rfl, rfl, rfl, by decide +kernel, rfl, by decide +kernel, by decide +kernel⟩
abbrev s_l_take : Stmt := top 29
theorem sc_l_take : FnScope ["_law_box_here", "_law_size", "_law_found", "_law_cell", "_law_reach"] ["_law_box_here", "_law_size"] (defScope s_l_take) := ⟨rfl, rfl, rfl, by decide +kernel, rfl, by decide +kernel, by decide +kernel⟩
abbrev s_l_shuffled : Stmt := top 30
theorem sc_l_shuffled : FnScope ["_law_box_here", "_law_things", "_law_pile", "_law_k"] ["_law_box_here", "_law_things"] (defScope s_l_shuffled) := ⟨rfl, rfl, rfl, by decide +kernel, rfl, by decide +kernel, by decide +kernel⟩
abbrev s_l_names : Stmt := top 31
theorem sc_l_names : FnScope ["_law_box_here", "_law_many", "_law_letters", "_law_found", "_law_k", "_law_size", "_law_name", "_law_j", "_law_one"] ["_law_box_here", "_law_many"] (defScope s_l_names) := ⟨rfl, rfl, rfl, by decide +kernel, rfl, by decide +kernel, by decide +kernel⟩
abbrev s_l_shared : Stmt := top 32
theorem sc_l_shared : FnScope ["_law_one", "_law_other"] ["_law_one", "_law_other"] (defScope s_l_shared) := ⟨rfl, rfl, rfl, by decide +kernel, rfl, by decide +kernel, by decide +kernel⟩
abbrev s_l_ratio : Stmt := top 33
theorem sc_l_ratio : FnScope ["_law_top", "_law_bottom", "_law_by"] ["_law_top", "_law_bottom"] (defScope s_l_ratio) := ⟨rfl, rfl, rfl, by decide +kernel, rfl, by decide +kernel, by decide +kernel⟩
abbrev s_l_plus : Stmt := top 34
theorem sc_l_plus : FnScope ["_law_one", "_law_other"] ["_law_one", "_law_other"] (defScope s_l_plus) := ⟨rfl, rfl, rfl, by decide +kernel, rfl, by decide +kernel, by decide +kernel⟩
abbrev s_l_times : Stmt := top 35
theorem sc_l_times : FnScope ["_law_one", "_law_other"] ["_law_one", "_law_other"] (defScope s_l_times) := ⟨rfl, rfl, rfl, by decide +kernel, rfl, by decide +kernel, by decide +kernel⟩
abbrev s_l_number : Stmt := top 36
theorem sc_l_number : FnScope ["_law_box_here", "_law_way", "_law_top"] ["_law_box_here"] (defScope s_l_number) := ⟨rfl, rfl, rfl, by decide +kernel, rfl, by decide +kernel, by decide +kernel⟩
abbrev s_l_given : Stmt := top 37
theorem sc_l_given : FnScope ["_law_box_here", "_law_number_here"] ["_law_box_here", "_law_number_here"] (defScope s_l_given) := ⟨rfl, rfl, rfl, by decide +kernel, rfl, by decide +kernel, by decide +kernel⟩
abbrev s_l_form : Stmt := top 38
theorem sc_l_form : FnScope ["_law_terms", "_law_constant", "_law_some", "_law_name"] ["_law_terms", "_law_constant"] (defScope s_l_form) := ⟨rfl, rfl, rfl, by decide +kernel, rfl, by decide +kernel, by decide +kernel⟩
abbrev s_l_joint : Stmt := top 39
theorem sc_l_joint : FnScope ["_law_one", "_law_other", "_law_terms", "_law_name", "_law_by"] ["_law_one", "_law_other"] (defScope s_l_joint) := ⟨rfl, rfl, rfl, by decide +kernel, rfl, by decide +kernel, by decide +kernel⟩
abbrev s_l_scaled : Stmt := top 40
theorem sc_l_scaled : FnScope ["_law_by", "_law_form_here", "_law_terms", "_law_name", "_law_one"] ["_law_by", "_law_form_here"] (defScope s_l_scaled) := ⟨rfl, rfl, rfl, by decide +kernel, rfl, by decide +kernel, by decide +kernel⟩
abbrev s_l_worth : Stmt := top 41
theorem sc_l_worth : FnScope ["_law_form_here", "_law_values", "_law_total", "_law_name", "_law_by"] ["_law_form_here", "_law_values"] (defScope s_l_worth) := ⟨rfl, rfl, rfl, by decide +kernel, rfl, by decide +kernel, by decide +kernel⟩
abbrev s_l_drawn_form : Stmt := top 42
theorem sc_l_drawn_form : FnScope ["_law_box_here", "_law_names_here", "_law_terms", "_law_name"] ["_law_box_here", "_law_names_here"] (defScope s_l_drawn_form) := ⟨rfl, rfl, rfl, by decide +kernel, rfl, by decide +kernel, by decide +kernel⟩
abbrev s_l_worth_told : Stmt := top 43
theorem sc_l_worth_told : FnScope ["_law_form_here", "_law_values", "_law_found", "e"] ["_law_form_here", "_law_values"] (defScope s_l_worth_told) := ⟨rfl, rfl, rfl, by decide +kernel, rfl, by decide +kernel, by decide +kernel⟩
abbrev s_l_lacking : Stmt := top 44
theorem sc_l_lacking : FnScope ["_law_box_here", "_law_form_here", "_law_values", "_law_some", "_law_passed", "_law_gone", "_law_due", "_law_handed", "_law_kept", "_law_name", "_law_by"] ["_law_box_here", "_law_form_here", "_law_values"] (defScope s_l_lacking) := ⟨rfl, rfl, rfl, by decide +kernel, rfl, by decide +kernel, by decide +kernel⟩
abbrev s_law : Stmt := top 45
theorem sc_law : FnScope ["_law_script", "_law_box_here", "_law_names_here", "_law_turn", "_law_one", "_law_other", "_law_third", "_law_values", "_law_by", "_law_name", "_law_joint_here", "_law_longer", "_law_put", "_law_worths", "_law_changed", "_law_k", "_law_form_here"] ["_law_script"] (defScope s_law) := ⟨rfl, rfl, rfl, by decide +kernel, rfl, by decide +kernel, by decide +kernel⟩
open PySem L2
/-! ### numbers -/
def CPowB (i j : Int) : Prop := 0 ≤ j ∧ (Builtin.Int.intBits i : Int) * j ≤ 2 ^ 27
theorem op_powB {X : Cx} : OpR X (binaryOp .Pow) (rI CPowB fun i j => .int (i ^ j.toNat)) := opI fun _ _ _ _ _ _ _ hc q => PyProof.Rows.pow_int hc.1 hc.2 q
/-- what the module leaves of the built-in names -/
structure Bt (mg : Str → Option Value) : Prop where
  n_len : mg "len" = none
  n_max : mg "max" = none
  n_abs : mg "abs" = none
  n_any : mg "any" = none
  n_all : mg "all" = none
  n_isinstance : mg "isinstance" = none
  n_range : mg "range" = none
  n_zip : mg "zip" = none
  n_int : mg "int" = none
  n_bool : mg "bool" = none
  n_tuple : mg "tuple" = none
  n_list : mg "list" = none
/-! ### a def that is known, and a def that keeps a promise -/
def Df (K : PySem.W.Frag) (mg : Str → Option Value) (x : Str) (st : Stmt) (ps : List Str) : Prop :=
  ∃ f fd, Fun K x x st f fd ∧ mg x = some (.ref f) ∧ Binds K fd ps []
def Kn (P : Program) (w : World) (K : PySem.W.Frag) (mg : Str → Option Value) (base : Heap) (cx : CXT) (x : Str) (k : Nat) (ps : List Str) (sp : Sp) : Prop :=
  ∃ f fd, FnOk P w K mg base cx k f fd ps sp ∧ mg x = some (.ref f) ∧ PySem.W.keepIn K (.ref f) = true ∧ Binds K fd ps []
/-! ### the box of draws: a list of a list, a number, a list, a number -/
def bl (g : Addr) (cur : Int) (c : Addr) (m : Int) : List V := [.ref g, .int cur, .ref c, .int m]
structure BoxIs (H : Hp) (b g c : Addr) (gs cs : List Int) (cur m : Int) : Prop where
  hb : H b = some (.lst (bl g cur c m))
  hg : H g = some (.lst (gs.map V.int))
  hc : H c = some (.lst (cs.map V.int))
  bg : b ≠ g
  bc : b ≠ c
  gc : g ≠ c
  m0 : 0 ≤ m
  lg : gs.length ≤ 63
  lc : cs.length ≤ 63
/-- a box from which at most n numbers have been drawn -/
def Box (H : Hp) (b g c : Addr) (n : Nat) : Prop := ∃ gs cs cur m, BoxIs H b g c gs cs cur m ∧ m ≤ (n : Int)
/-- all but the box's two objects is as it was -/
def But (b g : Addr) (H H' : Hp) : Prop := ∀ a o, H a = some o → a ≠ b → a ≠ g → H' a = some o
theorem But.refl (b g : Addr) (H : Hp) : But b g H H := fun _ _ h _ _ => h
theorem But.trans {b g : Addr} {H H1 H2 : Hp} (x : But b g H H1) (y : But b g H1 H2) : But b g H H2 := fun a o h h1 h2 => y a o (x a o h h1 h2) h1 h2
theorem But.of {b g : Addr} {H H' : Hp} (x : Same H H') : But b g H H' := fun a o h _ _ => x a o h
theorem But.updb {b g : Addr} {H : Hp} {o : HO} : But b g H (upd H b o) := fun a o' h h1 _ => by rw [upd_ne h1]; exact h
theorem But.updg {b g : Addr} {H : Hp} {o : HO} : But b g H (upd H g o) := fun a o' h _ h1 => by rw [upd_ne h1]; exact h
theorem same_new {H : Hp} {p : Addr} (h : H p = none) (o : HO) : Same H (upd H p o) := fun b u q => by rw [upd_ne (ne_of_none q h)]; exact q
theorem Box.same {H H' : Hp} {b g c : Addr} {n : Nat} (x : Box H b g c n) (s : Same H H') : Box H' b g c n := by
  obtain ⟨gs, cs, cur, m, B, hm⟩ := x
  exact ⟨gs, cs, cur, m, ⟨s _ _ B.hb, s _ _ B.hg, s _ _ B.hc, B.bg, B.bc, B.gc, B.m0, B.lg, B.lc⟩, hm⟩
theorem Box.mono {H : Hp} {b g c : Addr} {n k : Nat} (x : Box H b g c n) (h : n ≤ k) : Box H b g c k := by
  obtain ⟨gs, cs, cur, m, B, hm⟩ := x
  exact ⟨gs, cs, cur, m, B, by omega⟩
theorem BoxIs.updb {H : Hp} {b g c : Addr} {gs cs : List Int} {cur m cur' m' : Int} (B : BoxIs H b g c gs cs cur m) (h : 0 ≤ m') : BoxIs (upd H b (.lst (bl g cur' c m'))) b g c gs cs cur' m' :=
  ⟨upd_same, by rw [upd_ne B.bg.symm]; exact B.hg, by rw [upd_ne B.bc.symm]; exact B.hc, B.bg, B.bc, B.gc, h, B.lg, B.lc⟩
theorem BoxIs.updg {H : Hp} {b g c : Addr} {gs cs gs' : List Int} {cur m : Int} (B : BoxIs H b g c gs cs cur m) (h : gs'.length ≤ 63) : BoxIs (upd H g (.lst (gs'.map V.int))) b g c gs' cs cur m :=
  ⟨by rw [upd_ne B.bg]; exact B.hb, upd_same, by rw [upd_ne B.gc.symm]; exact B.hc, B.bg, B.bc, B.gc, B.m0, h, B.lc⟩
theorem seqIx0 {n : Nat} : seqIndex? 0 (n + 1) = some 0 := by
  have h : ixN (n + 1) 0 = some 0 := by
    unfold ixN
    rw [if_pos (by decide), if_pos (by omega)]
    rfl
  exact (ixN_seq h).1
theorem gcd_fmod (u v : Int) : Int.gcd v (u.fmod v) = Int.gcd u v := by
  have e : u.fmod v = u - v * u.fdiv v := Int.fmod_def u v
  apply Nat.dvd_antisymm
  · have d1 : (Int.gcd v (u.fmod v) : Int) ∣ v := Int.gcd_dvd_left ..
    have d2 : (Int.gcd v (u.fmod v) : Int) ∣ u.fmod v := Int.gcd_dvd_right ..
    have d3 : (Int.gcd v (u.fmod v) : Int) ∣ u := by
      have d4 := Int.dvd_add d2 (Int.dvd_trans d1 (Int.dvd_mul_right v (u.fdiv v)))
      rw [show u.fmod v + v * u.fdiv v = u by omega] at d4
      exact d4
    exact Int.dvd_gcd d3 d1
  · have d1 : (Int.gcd u v : Int) ∣ u := Int.gcd_dvd_left ..
    have d2 : (Int.gcd u v : Int) ∣ v := Int.gcd_dvd_right ..
    refine Int.dvd_gcd d2 ?_
    rw [e]
    exact Int.dvd_sub d1 (Int.dvd_trans d2 (Int.dvd_mul_right v _))
theorem natAbs_fmod_lt {u v : Int} (h : v ≠ 0) : (u.fmod v).natAbs < v.natAbs := by
  rw [Int.fmod_eq_emod]
  have h1 := Int.emod_nonneg u h
  have h2 := Int.emod_lt u h
  split <;> omega
/-! ### promises -/
def spMixed : Sp := fun vs H Q _ => ∃ cell k : Int, vs = [.int cell, .int k] ∧ 0 ≤ k ∧ k < 2000000 ∧ ∀ r : Int, Q (.int r) H
def spTake : Sp := fun vs H Q _ => ∃ (b g c : Addr) (n : Nat) (size : Int), vs = [.ref b, .int size] ∧ Box H b g c n ∧ n < 1000000 ∧ 0 < size ∧ size.natAbs < 2 ^ 8000 ∧
  ∀ (r : Int) (H' : Hp), 0 ≤ r → r < size → Box H' b g c (n + 1) → But b g H H' → Q (.int r) H'
def spBox (K : PySem.W.Frag) : Sp := fun vs H Q _ => ∃ (a : Addr) (ns : List Int), vs = [.ref a] ∧ SqL K H a (ns.map V.int) ∧ ns.length ≤ 63 ∧
  ∀ (b g c : Addr) (H' : Hp), Box H' b g c 0 → Same H H' → H b = none → H g = none → H c = none → Q (.ref b) H'
def spShared : Sp := fun vs H Q _ => ∃ a b : Int, vs = [.int a, .int b] ∧ Q (.int (Int.gcd a b : Int)) H
section
variable {P : Program} {w : World} {K : PySem.W.Frag} {mg : Str → Option Value} {base : Heap}
theorem ok_mixed (D : Df K mg "_law_mixed" s_l_mixed ["_law_cell", "_law_k"]) : Kn P w K mg base CX0 "_law_mixed" 1 ["_law_cell", "_law_k"] spMixed := by
  obtain ⟨f, fd, F, hm, hb⟩ := D
  refine ⟨f, fd, F.ok sc_l_mixed (fun vs H Q E h => ?_) (fun cdv A outer s H vs Q E hr h => ?_), hm, F.kp, hb⟩
  · obtain ⟨cell, k, rfl, _⟩ := h
    rfl
  · obtain ⟨cell, k, rfl, k0, k1, q⟩ := h
    refine ⟨_, (pss_cons (ps_set (i := 2) sc_l_mixed.nd rfl (Or.inl rfl) (pe_op op_mod (pe_op op_powB (pe_op op_add (pe_op op_add (pe_op op_add (pe_op op_mod (pv 0) pe_int) (pe_op op_mul (pe_op op_mul pe_int (pv 1)) (pv 1))) (pe_op op_mul pe_int (pv 1))) pe_int) pe_int) pe_int))
      (pss_one (ps_ret (pe_op op_mod (pe_op op_add (pe_op op_mul (pv 2) pe_int) (pe_op op_mul pe_int (pv 1))) pe_int)))), ?_⟩
    have c0 : (0 : Int) ≤ cell % 2147483647 := Int.emod_nonneg _ (by decide)
    have c1 : cell % 2147483647 < 2147483647 := Int.emod_lt_of_pos _ (by decide)
    have kk : (0 : Int) ≤ 1009 * k * k ∧ 1009 * k * k ≤ 1009 * 2000000 * 2000000 := by
      have a1 : 0 ≤ 1009 * k := by omega
      have a2 : 1009 * k ≤ 1009 * 2000000 := by omega
      exact ⟨Int.mul_nonneg a1 k0, Int.mul_le_mul a2 (by omega) k0 (by omega)⟩
    refine ⟨_, rfl, _, _, rfl, rfl, (show (0 : Int) < 2147483647 by decide), _, rfl, _, _, rfl, rfl, .inl ⟨by decide, by decide⟩, _, rfl, _, _, rfl, rfl, .inl ⟨by omega, by omega⟩, _, _, rfl, rfl,
      _, rfl, _, _, rfl, rfl, .inl ⟨by decide, by decide⟩, _, _, rfl, rfl, _, _, rfl, rfl, _, _, rfl, rfl, ⟨by decide, ?_⟩, _, _, rfl, rfl, (show (0 : Int) < 2147483647 by decide), ?_⟩
    · generalize hz : cell % 2147483647 + 1009 * k * k + 48611 * k + 17 = z
      have z0 : 0 ≤ z := by omega
      have z1 : z < 2 ^ 64 := by omega
      have hb := intBits_le_64 (k := z) (by omega) z1
      have : (Builtin.Int.intBits z : Int) ≤ 64 := by omega
      omega
    · refine ⟨_, rfl, _, _, rfl, rfl, .inr ⟨by decide, by decide⟩, _, rfl, _, _, rfl, rfl, .inl ⟨by decide, by decide⟩, _, _, rfl, rfl, _, _, rfl, rfl, (show (0 : Int) < 1000000007 by decide), ?_⟩
      exact q _
theorem ok_shared (T : Bt mg) (D : Df K mg "_law_shared" s_l_shared ["_law_one", "_law_other"]) : Kn P w K mg base CX0 "_law_shared" 1 ["_law_one", "_law_other"] spShared := by
  obtain ⟨f, fd, F, hm, hb⟩ := D
  refine ⟨f, fd, F.ok sc_l_shared (fun vs H Q E h => ?_) (fun cdv A outer s H vs Q E hr h => ?_), hm, F.kp, hb⟩
  · obtain ⟨x, y, rfl, _⟩ := h
    rfl
  · obtain ⟨x, y, rfl, q⟩ := h
    refine ⟨_, (pss_cons (ps_while PassesOwn.never (pt_cmpR op_ne (pv 1) pe_int (nomark _)) (pss_one (ps_par (i := 0) (j := 1) (by rfl) sc_l_shared.nd rfl rfl (by decide) rfl rfl (pa_cons (pv 1) (pa_cons (pe_op op_modN (pv 0) (pv 1)) pa_nil)) (by rfl))))
      (pss_one (ps_ret (pe_callB call_abs (by rfl) T.n_abs (by decide +kernel) (pa_cons (pv 0) pa_nil))))), ?_⟩
    refine while_by (fun σ H' => H' = H ∧ ∃ u v : Int, σ = [some (.int u), some (.int v)] ∧ Int.gcd u v = Int.gcd x y) (fun σ _ => match σ with | [_, some (.int v)] => v.natAbs | _ => 0) ⟨rfl, x, y, rfl, rfl⟩ ?_ ?_
    · rintro σ H' ⟨rfl, u, v, rfl, e⟩
      refine ⟨_, rfl, rfl, _, rfl, ?_⟩
      refine ite2 (fun c => ?_) (fun c => ?_)
      · have hv : v ≠ 0 := by
          intro z
          rw [z] at c
          exact absurd c (by decide)
        refine ⟨_, rfl, _, rfl, _, rfl, _, _, rfl, rfl, hv, _, _, rfl, ⟨rfl, _, _, rfl, ?_⟩, ?_⟩
        · rw [gcd_fmod]
          exact e
        · show (u.fmod v).natAbs < v.natAbs
          exact natAbs_fmod_lt hv
      · have hv : v = 0 := by
          by_cases z : v = 0
          · exact z
          · exact absurd (by simp [z]) c
        subst hv
        refine ⟨_, rfl, _, rfl, ?_⟩
        have e2 : (if u < 0 then -u else u) = (Int.gcd x y : Int) := by
          rw [← e, Int.gcd_zero_right]
          omega
        rw [e2]
        exact q
    · intro σ H' Q1 Q2 hq h
      obtain ⟨v, h1, h2, k, h3, h4⟩ := h
      exact ⟨v, h1, h2, k, h3, hq _ _ h4⟩
theorem ok_take (T : Bt mg) (GM : Kn P w K mg base CX0 "_law_mixed" 1 ["_law_cell", "_law_k"] spMixed) (D : Df K mg "_law_take" s_l_take ["_law_box_here", "_law_size"]) :
    Kn P w K mg base CX0 "_law_take" 2 ["_law_box_here", "_law_size"] spTake := by
  obtain ⟨f, fd, F, hm, hb⟩ := D
  obtain ⟨f_l_mixed, fd_l_mixed, G_l_mixed, m_l_mixed, k_l_mixed, b_l_mixed⟩ := GM
  refine ⟨f, fd, F.ok sc_l_take (fun vs H Q E h => ?_) (fun cdv A outer s H vs Q E hr h => ?_), hm, F.kp, hb⟩
  · obtain ⟨b, g, c, n, size, rfl, _⟩ := h
    rfl
  · obtain ⟨b, g, c, n, size, rfl, ⟨gs, cs, cur, m, B, hmn⟩, hn, s0, sB, q⟩ := h
    refine ⟨_, (pss_cons (ps_asg (pe_op op_add (pe_ix ix_list (pv 0) pe_int (fun _ _ => rfl)) pe_int) (pg_sub (pv 0) pe_int set_list))
      (C8.pss_cut (ps_if (PW.pt (pw_and (pt_cmpR op_eq (pe_ix ix_list (pv 0) pe_int (fun _ _ => rfl)) pe_int (nomark _)) (pw_and1 (pt_cmpR op_gt (pe_callB call_len_seq (by rfl) T.n_len (by decide +kernel) (pa_cons (pe_ix ix_list (pv 0) pe_int (fun _ _ => rfl)) pa_nil)) pe_int (nomark _))))) (pss_one (ps_asg (pe_bm PySem.F.plainAttrs_list PySem.F.slot_list_pop PySem.F.type_list_pop mt_popAt (pe_ix ix_list (pv 0) pe_int (fun _ _ => rfl)) (pa_cons pe_int pa_nil)) (pg_sub (pv 0) pe_int set_list))) pss_nil)
      (pss_cons (ps_if (pt_cmpR op_gt (pe_ix ix_list (pv 0) pe_int (fun _ _ => rfl)) pe_int (nomark _)) (pss_cons (ps_set (i := 2) sc_l_take.nd rfl (Or.inl rfl) (pe_op op_mod (pe_ix ix_list (pv 0) pe_int (fun _ _ => rfl)) (pv 1)))
      (pss_cons (ps_asg (pe_op op_fdivW (pe_ix ix_list (pv 0) pe_int (fun _ _ => rfl)) (pv 1)) (pg_sub (pv 0) pe_int set_list))
      (pss_one (ps_ret (pv 2))))) pss_nil)
      (pss_cons (ps_set (i := 3) sc_l_take.nd rfl (Or.inl rfl) (pe_ix ix_list (pe_op op_cat (pe_ix ix_list (pv 0) pe_int (fun _ _ => rfl)) (pe_lst (pa_cons (pe_op op_mul pe_int (pe_ix ix_list (pv 0) pe_int (fun _ _ => rfl))) pa_nil))) (pe_op op_mod (pe_ix ix_list (pv 0) pe_int (fun _ _ => rfl)) (pe_callB (call_max2 rfl) (by rfl) T.n_max (by decide +kernel) (pa_cons pe_int (pa_cons (pe_callB call_len_seq (by rfl) T.n_len (by decide +kernel) (pa_cons (pe_ix ix_list (pv 0) pe_int (fun _ _ => rfl)) pa_nil)) pa_nil)))) (fun _ _ => rfl)))
      (pss_cons (ps_set (i := 2) sc_l_take.nd rfl (Or.inl rfl) pe_int)
      (pss_cons (ps_set (i := 4) sc_l_take.nd rfl (Or.inl rfl) pe_int)
      (pss_cons (ps_while PassesOwn.never (pt_cmpR op_lt (pv 4) (pv 1) (nomark _)) (pss_cons (ps_set (i := 2) sc_l_take.nd rfl (Or.inl rfl) (pe_op op_add (pe_op op_mul (pv 2) pe_int) (pe_call G_l_mixed (hr.mono (by omega)) rfl m_l_mixed k_l_mixed b_l_mixed .nil pass0 (pa_cons (pv 3) (pa_cons (pe_op op_add (pe_ix ix_list (pv 0) pe_int (fun _ _ => rfl)) (pe_op op_mul pe_int (pe_op op_mod (pv 2) pe_int))) pa_nil)))))
      (pss_one (ps_set (i := 4) sc_l_take.nd rfl (Or.inl rfl) (pe_op op_mul (pv 4) pe_int)))))
      (pss_one (ps_ret (pe_op op_mod (pv 2) (pv 1))))))))))), ?_⟩
    have m0 := B.m0
    -- box[3] = box[3] + 1
    refine ⟨_, rfl, b, _, _, .int m, rfl, rfl, SqL.of B.hb, rfl, _, _, rfl, rfl, _, rfl, b, _, _, 3, rfl, rfl, B.hb, rfl, ?_⟩
    have B1 : BoxIs (upd H b (.lst (bl g cur c (m + 1)))) b g c gs cs cur (m + 1) := B.updb (by omega)
    refine ⟨fun σ H2 => σ = start ["_law_box_here", "_law_size", "_law_found", "_law_cell", "_law_reach"] [.ref b, .int size] ∧ But b g H H2 ∧ ∃ gs2 cur2, BoxIs H2 b g c gs2 cs cur2 (m + 1), ?_, ?_⟩
    · -- if box[1] == 0 and len(box[0]) > 0: box[1] = box[0].pop(0)
      refine ⟨_, rfl, b, _, _, .int cur, rfl, rfl, SqL.of B1.hb, rfl, rfl, _, rfl, ?_⟩
      refine ite2 (fun h => ?_) (fun h => ?_)
      · refine ⟨_, rfl, b, _, _, .ref g, rfl, rfl, SqL.of B1.hb, rfl, g, _, rfl, .inl (SqL.of B1.hg), _, _, rfl, rfl, _, rfl, ?_⟩
        refine ite2 (fun h2 => ?_) (fun h2 => ?_)
        · have h3 : (0 : Int) < ((gs.map V.int).length : Nat) := of_decide_eq_true h2
          rw [List.length_map] at h3
          obtain ⟨z, gr, rfl⟩ : ∃ z gr, gs = z :: gr := by
            cases gs with
            | nil => exact absurd h3 (by decide)
            | cons z gr => exact ⟨z, gr, rfl⟩
          have lg := B.lg
          refine ⟨_, rfl, b, _, _, .ref g, rfl, rfl, SqL.of B1.hb, rfl, .inl ⟨rfl, _, SqL.of B1.hg⟩, g, _, 0, 0, .int z, rfl, rfl, B1.hg, by decide, by decide, seqIx0, rfl, ?_⟩
          have B2 : BoxIs (upd (upd H b (.lst (bl g cur c (m + 1)))) g (.lst (gr.map V.int))) b g c gr cs cur (m + 1) := B1.updg (by rw [List.length_cons] at lg; omega)
          refine ⟨_, rfl, b, _, _, 1, rfl, rfl, B2.hb, rfl, ?_⟩
          exact ⟨rfl, (But.updb.trans But.updg).trans But.updb, gr, z, B2.updb (by omega)⟩
        · exact ⟨rfl, But.updb, gs, cur, B1⟩
      · exact ⟨rfl, But.updb, gs, cur, B1⟩
    · rintro σ H2 ⟨rfl, hbut, gs2, cur2, B2⟩
      -- if box[1] > 0
      refine ⟨_, rfl, b, _, _, .int cur2, rfl, rfl, SqL.of B2.hb, rfl, _, _, rfl, rfl, _, rfl, ?_⟩
      refine ite2 (fun h => ?_) (fun h => ?_)
      · refine ⟨_, rfl, b, _, _, .int cur2, rfl, rfl, SqL.of B2.hb, rfl, _, rfl, _, _, rfl, rfl, s0, ?_⟩
        refine ⟨_, rfl, b, _, _, .int cur2, rfl, rfl, SqL.of B2.hb, rfl, _, rfl, _, _, rfl, rfl, wide_div s0 sB (by decide) (by decide), ?_⟩
        refine ⟨_, rfl, b, _, _, 1, rfl, rfl, B2.hb, rfl, ?_⟩
        refine ⟨_, rfl, ?_⟩
        exact q _ _ (Int.emod_nonneg _ (by omega)) (Int.emod_lt_of_pos _ s0) ⟨gs2, cs, _, _, B2.updb (by omega), by omega⟩ (hbut.trans But.updb)
      · -- cell = (box[2] + [7 * box[3]])[box[3] % max(1, len(box[2]))]
        refine ⟨_, rfl, b, _, _, .ref c, rfl, rfl, SqL.of B2.hb, rfl, _, rfl, b, _, _, .int (m + 1), rfl, rfl, SqL.of B2.hb, rfl, _, _, rfl, rfl, .inl ⟨by decide, by decide⟩, (by show 1 ≤ sizeLine; decide), fun p np => ?_⟩
        have s1 := same_new np (.lst [.int (7 * (m + 1))])
        have lc := B.lc
        refine ⟨c, p, _, _, rfl, rfl, s1 _ _ B2.hc, upd_same, (by rw [List.length_map]; show cs.length + 1 ≤ sizeLine; exact Nat.le_of_lt (small1000 (by omega))), fun p2 np2 => ?_⟩
        have s2 := s1.trans (same_new np2 (.lst (cs.map V.int ++ [.int (7 * (m + 1))])))
        refine ⟨_, rfl, b, _, _, .int (m + 1), rfl, rfl, SqL.of (s2 _ _ B2.hb), rfl, _, rfl, b, _, _, .ref c, rfl, rfl, SqL.of (s2 _ _ B2.hb), rfl, c, _, rfl, .inl (SqL.of (s2 _ _ B2.hc)), _, _, rfl, ?_⟩
        have hmx : ((cs.map V.int).length : Int) = cs.length := by rw [List.length_map]
        rw [hmx]
        generalize hM : (if (cs.length : Int) > 1 then (cs.length : Int) else 1) = M
        have M0 : 0 < M := by split at hM <;> omega
        have M1 : M ≤ cs.length + 1 := by split at hM <;> omega
        refine ⟨_, _, rfl, rfl, M0, ?_⟩
        have i0 := Int.emod_nonneg (m + 1) (show M ≠ 0 by omega)
        have i1 := Int.emod_lt_of_pos (m + 1) M0
        obtain ⟨v, hv⟩ : ∃ v : Int, atI (cs.map V.int ++ [.int (7 * (m + 1))]) ((m + 1) % M) = some (.int v) := by
          generalize (m + 1) % M = j at i0 i1
          obtain ⟨k, rfl⟩ : ∃ k : Nat, j = (k : Int) := ⟨j.toNat, by omega⟩
          by_cases hk : k < cs.length
          · exact ⟨cs[k], atI_nat (by rw [List.getElem?_append_left (by rw [List.length_map]; exact hk), List.getElem?_map, List.getElem?_eq_getElem hk]; rfl)⟩
          · have ek : k = cs.length := by omega
            subst ek
            exact ⟨7 * (m + 1), atI_nat (by rw [List.getElem?_append_right (by rw [List.length_map]; exact Nat.le_refl _), List.length_map, Nat.sub_self]; rfl)⟩
        refine ⟨p2, _, _, .int v, rfl, rfl, SqL.of upd_same, hv, ?_⟩
        generalize hH3 : upd (upd H2 p (.lst [.int (7 * (m + 1))])) p2 (.lst (cs.map V.int ++ [.int (7 * (m + 1))])) = H3
        rw [hH3] at s2
        have hb3 : H3 b = some (.lst (bl g cur2 c (m + 1))) := s2 _ _ B2.hb
        -- found = 0; reach = 1; while ..
        refine while_by (fun σ H' => H' = H3 ∧ ∃ u v' : Int, σ = [some (.ref b), some (.int size), some (.int u), some (.int v), some (.int v')] ∧ 1 ≤ v') (fun σ _ => match σ with | [_, _, _, _, some (.int v')] => (size - v').toNat | _ => 0) ⟨rfl, 0, 1, rfl, by decide⟩ ?_ ?_
        · rintro σ H' ⟨rfl, u, v', rfl, hv'⟩
          refine ⟨_, rfl, _, rfl, _, _, rfl, rfl, _, rfl, ?_⟩
          refine ite2 (fun c => ?_) (fun c => ?_)
          · have hlt : v' < size := of_decide_eq_true c
            refine ⟨_, rfl, _, _, rfl, rfl, .inr ⟨by decide, by decide⟩, _, rfl, _, rfl, b, _, _, .int (m + 1), rfl, rfl, SqL.of hb3, rfl, _, rfl, _, _, rfl, rfl, (show (0 : Int) < 89 by decide), _, _, rfl, rfl, .inl ⟨by decide, by decide⟩, _, _, rfl, rfl, ?_⟩
            have f0 := Int.emod_nonneg u (show (89 : Int) ≠ 0 by decide)
            have f1 := Int.emod_lt_of_pos u (show (0 : Int) < 89 by decide)
            refine ⟨_, _, rfl, by omega, by omega, fun r => ?_⟩
            refine ⟨_, _, rfl, rfl, ?_⟩
            refine ⟨_, rfl, _, _, rfl, rfl, .inr ⟨by decide, by decide⟩, ⟨rfl, _, _, rfl, by omega⟩, ?_⟩
            show (size - v' * 1000000007).toNat < (size - v').toNat
            omega
          · refine ⟨_, rfl, _, rfl, _, _, rfl, rfl, s0, ?_⟩
            exact q _ _ (Int.emod_nonneg _ (by omega)) (Int.emod_lt_of_pos _ s0) ⟨gs2, cs, cur2, m + 1, ⟨hb3, s2 _ _ B2.hg, s2 _ _ B2.hc, B2.bg, B2.bc, B2.gc, B2.m0, B2.lg, B2.lc⟩, by omega⟩ (hbut.trans (But.of s2))
        · intro σ H' Q1 Q2 hq h
          obtain ⟨v, h1, v2, h2, i, j, e1, e2, k, e3, h3⟩ := h
          exact ⟨v, h1, v2, h2, i, j, e1, e2, k, e3, hq _ _ h3⟩
end

/-! ### isinstance of a caught error whose own dict stands (or that has none) -/
open PySem.W PySem.Calls PyProof.Rows in
theorem class_of_err {prog : Program} {w : World} {A : Around} {Bad : Value → Shared → Prop} {s : Shared} {K : PySem.W.Frag} {e D : Addr} {oe : Obj} {own : Option Obj} {Want : Option Value → Shared → Prop} (cc : L2.ExcC K D)
    (KI : K.In s.heap) (J : InstAt s.heap e oe D own) (q : Want (some (.ref D)) { s with toks := s.toks + 1 }) : wpAny (model prog w) A (getAttr? (.ref e) "__class__") Want Bad s := by
  have found : findObj K D own "__class__" = some (.bind (.builtin "getset_descriptor.__get__") (.builtin "object.__class__")) := by
    obtain ⟨cd, e0, _⟩ := any_some cc.hd
    unfold findObj
    rw [e0, Option.bind_some, cc.ha, Option.bind_some]
    simp [cc.hn, cc.ht]
  obtain ⟨hp, gs, dr, tk, osx⟩ := s
  have k1 := J.type (M := model prog w)
  have k2 := looks_findIn (M := model prog w) KI cc.hg
  have k3 := looks_findIn (M := model prog w) KI cc.hk
  have k4 := looks_find (M := model prog w) KI J found
  have isB : Looks (model prog w) hp (isInstance (.ref e) (.type "BaseException")) true := k1.andThen (looks_subIn KI cc.hs)
  have n1 : (false && onTheHeap (Value.builtin "BaseException.__getattribute__")) = false := rfl
  have n2 : (onTheHeap (Value.ref D) && Value.builtin "BaseException.__getattribute__" == Value.builtin "object.__getattribute__") = false := by
    rw [show (Value.builtin "BaseException.__getattribute__" == Value.builtin "object.__getattribute__") = false by decide +kernel]
    rfl
  unfold getAttr? getAttrBy? getAttrBy
  refine wpAny_bind (wpAny_mkText (wpAny_bind (wpAny_attempt (wpAny_holding (wpAny_bind (k1.at (wpAny_bind (k2.at ?_))))))))
  show wpAny _ _ (if (onTheHeap (Value.ref D) && Value.builtin "BaseException.__getattribute__" == Value.builtin "object.__getattribute__") = true then _ else _) _ _ _
  rw [n2, if_neg Bool.false_ne_true]
  unfold getAttrByItsOwn hookBefore
  refine wpAny_bind ?_
  rw [if_pos (show onTheHeap (Value.ref D) = true from rfl)]
  refine k3.at (wpAny_bind (wpAny_attempt (wpAny_holding ?_)))
  unfold callGetattribute
  rw [n1, if_neg Bool.false_ne_true]
  unfold boundAndCalled
  rw [PySem.F.excAttr_ValueError.ga.bind (.ref e)]
  refine wpAny_bind (wpAny_pure ?_)
  show wpAny _ _ (call (.builtin "BaseException.__getattribute__") [.ref e, .str "__class__" tk]) _ _ _
  refine wpAny_call (codeAny_call_builtin PySem.F.excAttr_ValueError.ga.plain PySem.F.entry_bexc_ga ?_)
  refine @check_slot (model prog w) _ _ ⟨hp, gs, dr, tk + 1, osx⟩ "BaseException.__getattribute__" "BaseException" "__getattribute__" (.ref e) [.str "__class__" tk] [] _ (by decide +kernel) (by decide +kernel) isB (PySem.F.args_bexc_ga (.ref e) (.str "__class__" tk)) ?_
  unfold Builtin.«object.__getattribute__»
  refine wpAny_bind (wpAny_of_eq (a := ((Value.ref e : Value), [Value.str "__class__" tk])) (by first | rfl | (simp only [slotArgs]; rfl)) ?_)
  refine wpAny_bind (wpAny_pure (wpAny_bind (k1.at (wpAny_bind (k4.at ?_)))))
  show wpAny _ _ (holding [Value.builtin "object.__class__"] (call (.builtin "getset_descriptor.__get__") [.builtin "object.__class__", .ref e, .ref D]) >>= ret) _ _ _
  refine wpAny_bind (wpAny_holding (wpAny_call (class_get (s := ⟨hp, gs, dr, tk + 1, osx⟩) (ox := oe) (od := own) KI J cc.hm ?_)))
  refine wpAny_pure ?_
  show wpAny _ _ (handedOut (.ref D)) _ _ _
  rw [handedOut_of (v := .ref D) rfl]
  first
    | exact wpAny_pure (wpAny_pure q)
    | exact wpAny_pure q
    | exact wpAny_pure (wpAny_bind (wpAny_pure (wpAny_pure q)))
open PySem.W in
theorem kit_err {K : PySem.W.Frag} {e D : Addr} {oe : Obj} {own : Option Obj} (cc : L2.ExcC K D) : KitX K (.ref e) (.ref D) (fun h => InstAt h e oe D own) where
  ty := fun _ _ _ J => J.type
  it := fun _ _ KI _ => by
    obtain ⟨cd, e0, _⟩ := any_some cc.hd
    unfold clsIn at e0
    split at e0
    · rename_i _ _ _ _ at0
      intro _ _ _ _ kk qq
      unfold isType loadHead
      exact wpAny_bind (wpAny_loadPart (kk _ _ (KI _ _ at0)) (wpAny_pure qq))
    · cases e0
  ne := fun h tp dd its n sl KI htp => by
    obtain ⟨cd, e0, _⟩ := any_some cc.hd
    refine Bool.eq_false_iff.mpr fun z => ?_
    have same : D = tp := Value.ref.inj (beq_iff_eq.mp z)
    subst same
    unfold clsIn at e0
    split at e0
    · rename_i _ _ _ _ at0
      have z2 := (KI _ _ at0).symm.trans htp
      cases z2
    · cases e0
  ca := fun KI J kk => class_of_err cc KI J kk
def rIsErr (K : PySem.W.Frag) (D a : Addr) (cls : Value) (d : Option Addr) : List V → Hp → VK → Prop := fun xs H Q => ∃ (c : V) (cv : Value) (b : Bool), xs = [.ref a, c] ∧ cls = .ref D ∧ ClsV c cv ∧ PySem.W.kitOne K (.ref D) cv = some b ∧
  (d = none ∨ ∃ dd fs, d = some dd ∧ H dd = some (.xd fs)) ∧ Q (.bl b) H
theorem call_isErr {X : Cx} {a D : Addr} {oe : Obj} {cls : Value} {d : Option Addr} {pn : List (Addr × Obj)} (cc : ExcC X.K D) (hz : Zc cls d oe) (hf : ∃ vs, oe.data = .fields vs) : CallR (X.suite a ((a, oe) :: pn)) (.builtin "isinstance") (rIsErr X.K D a cls d) := by
  intro pins s σ H xs us Q I r h
  obtain ⟨c, cv, b, rfl, rfl, hcv, e, hd, q⟩ := h
  obtain ⟨u1, u2, rfl, r1, r2⟩ := vals2 r
  cases (show u1 = Value.ref a from r1)
  have e2 := hcv.eq r2
  subst e2
  obtain ⟨at0, _⟩ := I.pin (a, oe) (List.mem_append.mpr (.inl List.mem_cons_self))
  obtain ⟨vs, hv⟩ := hf
  have J : ∃ own, PySem.W.InstAt s.heap a oe D own := by
    rcases hd with rfl | ⟨dd, fs, rfl, hx⟩
    · exact ⟨none, at0, hz.1, by unfold PySem.W.notCls; rw [hv] <;> rfl, by rw [hz.2]; exact True.intro⟩
    · have hx2 : ObjOk X.prog X.w H s.heap dd (.xd fs) := I.hok dd _ hx
      obtain ⟨mA, hns, hr⟩ := hx2
      obtain ⟨od, ho, hl⟩ := lookIn_ns hns
      exact ⟨some od, at0, hz.1, by unfold PySem.W.notCls; rw [hv] <;> rfl, by rw [hz.2]; exact ho⟩
  obtain ⟨own, J⟩ := J
  exact PySem.W.kia_one (kit_err cc) I.kIn J e (fun z => nomatch z) fun tk => ⟨.bl b, H, I.kept (t' := tk) fun _ _ z => z, rfl, q⟩

/-! ### data of any depth -/
def tyN : PyData → String
  | .none => "NoneType" | .bool _ => "bool" | .int _ => "int" | .str _ => "str" | .list _ => "list" | .tuple _ => "tuple" | .dict _ => "dict"
theorem dp_ty {K : PySem.W.Frag} {H : Hp} {v : V} {d : PyData} (h : Dp K H v d) : TyX K H v (.type (tyN d)) := by
  cases h with
  | non => exact .base .non
  | bl b => exact .base (.bl b)
  | int i => exact .base (.int i)
  | str x => exact .base (.str x)
  | lst hs _ =>
    rcases hs with (h | ⟨o, h⟩) | ⟨o, its, n, e, c, _⟩
    · exact .base (.lst h)
    · exact .base (.frz h)
    · exact .kList e c
  | tup hs _ =>
    rcases hs with (h | ⟨o, h⟩) | ⟨o, its, n, e, c, _⟩
    · exact .base (.tup h)
    · exact .fTuple h
    · exact .kTuple e c
theorem cr_isi {X : Cx} {K : PySem.W.Frag} (h : X.K = K) : CallR X (.builtin "isinstance") (rIsi K) := by
  subst h
  exact call_isi
theorem cr_isiT {X : Cx} {K : PySem.W.Frag} (h : X.K = K) : CallR X (.builtin "isinstance") (rIsiT K) := by
  subst h
  exact call_isiT
theorem pg_tupK {X : Cx} {K : PySem.W.Frag} {es : List Expr} {k n : Nat} {pos : Pos} {t : TGs} (hK : X.K = K) (hc : X.calm = true) (h : PGs X es t) (hn : (assignEach es X.env).length = n) (hst : (assignEach es X.env).findIdx? (·.1) = none) : PG X (.Tuple es k pos) (gTup K n t) := by
  subst hK
  exact pg_tup hc h hn hst
theorem walk_zipT {K : PySem.W.Frag} {a b : Addr} {xs ys : List V} {n : Nat} (ex : n = xs.length) (ey : n = ys.length) : Walk (RZ.ItzT K a b) n (fun H => SqT K H a xs ∧ SqT K H b ys) (YPair (fun i => xs[i]?) (fun i => ys[i]?)) where
  goes := fun i _ hi q => ⟨xs, ys, xs[i]'(by omega), ys[i]'(by omega), q.1, q.2, List.getElem?_eq_getElem _, List.getElem?_eq_getElem _⟩
  stops := fun _ q => ⟨xs, ys, q.1, q.2, by omega⟩
  yields := fun i H v H' _ q y => by
    obtain ⟨T, x, z, h1, h2, h3, h4, h5⟩ := y
    exact ⟨T, x, z, h1, h2, h3, h4 xs q.1, h5 ys q.2⟩
theorem isi_of {K : PySem.W.Frag} {H : Hp} {v : V} {d : PyData} {T : String} {r : Bool} {Q : VK} (h : Dp K H v d) (e : kitB (tyN d) T = some r) (q : Q (.bl r) H) : rIsi K [v, .ty T] H Q :=
  ⟨v, .ty T, _, _, r, rfl, .ty T, dp_ty h, kit_ty e, q⟩
def isInt : PyData → Bool | .int _ => true | .bool _ => true | _ => false
def isBool : PyData → Bool | .bool _ => true | _ => false
def isTup : PyData → Bool | .tuple _ => true | _ => false
def isLst : PyData → Bool | .list _ => true | _ => false
def isStr : PyData → Bool | .str _ => true | _ => false
theorem kb_int (d : PyData) : kitB (tyN d) "int" = some (isInt d) := by cases d <;> (dsimp only [tyN, isInt]; decide +kernel)
theorem kb_bool (d : PyData) : kitB (tyN d) "bool" = some (isBool d) := by cases d <;> (dsimp only [tyN, isBool]; decide +kernel)
theorem kb_tup (d : PyData) : kitB (tyN d) "tuple" = some (isTup d) := by cases d <;> (dsimp only [tyN, isTup]; decide +kernel)
theorem kb_lst (d : PyData) : kitB (tyN d) "list" = some (isLst d) := by cases d <;> (dsimp only [tyN, isLst]; decide +kernel)
theorem kb_str (d : PyData) : kitB (tyN d) "str" = some (isStr d) := by cases d <;> (dsimp only [tyN, isStr]; decide +kernel)
theorem same_seqT {K : PySem.W.Frag} {H H' : Hp} {a : Addr} {xs : List V} (e : Same H H') (h : SqT K H a xs) : SqT K H' a xs := by
  rcases h with (h | ⟨o, h⟩) | h
  · exact .inl (.inl (e _ _ h))
  · exact .inl (.inr ⟨o, e _ _ h⟩)
  · exact .inr h
mutual
theorem dp_same {K : PySem.W.Frag} {H H' : Hp} (s : Same H H') : ∀ (d : PyData) (v : V), Dp K H v d → Dp K H' v d
  | .none, _, h => by cases h; exact .non
  | .bool b, _, h => by cases h; exact .bl b
  | .int i, _, h => by cases h; exact .int i
  | .str x, _, h => by cases h; exact .str x
  | .list ds, _, h => by
    cases h with
    | lst hs ha => exact .lst (s.seq hs) (dps_same s ds _ ha)
  | .tuple ds, _, h => by
    cases h with
    | tup hs ha => exact .tup (same_seqT s hs) (dps_same s ds _ ha)
  | .dict _, _, h => by cases h
theorem dps_same {K : PySem.W.Frag} {H H' : Hp} (s : Same H H') : ∀ (ds : List PyData) (vs : List V), DpAll K H vs ds → DpAll K H' vs ds
  | [], _, h => by cases h; exact .nil
  | d :: ds, _, h => by
    cases h with
    | cons h1 h2 => exact .cons (dp_same s d _ h1) (dps_same s ds _ h2)
end
theorem dps_len {K : PySem.W.Frag} {H : Hp} : ∀ {vs : List V} {ds : List PyData}, DpAll K H vs ds → vs.length = ds.length
  | _, _, .nil => rfl
  | _, _, .cons _ t => congrArg (· + 1) (dps_len t)
theorem dps_get {K : PySem.W.Frag} {H : Hp} : ∀ {vs : List V} {ds : List PyData} {i : Nat} {v : V}, DpAll K H vs ds → vs[i]? = some v → ∃ d, ds[i]? = some d ∧ Dp K H v d
  | [], _, i, v, _, h => by simp at h
  | x :: vs, ds, 0, v, a, h => by
    cases a with
    | cons h1 t =>
      have e : x = v := Option.some.inj h
      rw [← e]
      exact ⟨_, rfl, h1⟩
  | x :: vs, ds, i + 1, v, a, h => by
    cases a with
    | cons h1 t => exact dps_get (i := i) t h
/-- the ratio that a value is; the number that it stands for -/
def intOf : PyData → Option Int | .int i => some i | _ => none
def rat2 : List PyData → Option (Int × Int)
  | [a, b] => (match intOf a with
    | some t => (match intOf b with
      | some m => if 1 ≤ m ∧ Int.gcd t m = 1 then some (t, m) else none
      | none => none)
    | none => none)
  | _ => none
def ratOf : PyData → Option (Int × Int)
  | .tuple ds => rat2 ds
  | _ => none
def numOf : PyData → Option (Int × Int)
  | .int i => some (i, 1)
  | d => ratOf d
def isRat (d : PyData) : Bool := (ratOf d).isSome
def wholeD : PyData → Bool | .int _ => true | _ => false
def rat (t m : Int) : PyData := .tuple [.int t, .int m]
theorem dp_rat {K : PySem.W.Frag} {H : Hp} {p : Addr} {t m : Int} (h : H p = some (.tup [.int t, .int m])) : Dp K H (.ref p) (rat t m) := .tup (SqT.of h) (.cons (.int t) (.cons (.int m) .nil))
def spD (K : PySem.W.Frag) (f : PyData → Bool) : Sp := fun vs H Q _ => ∃ (v : V) (d : PyData), vs = [v] ∧ Dp K H v d ∧ ∀ H', Same H H' → Q (.bl (f d)) H'
theorem Kn.mono {P : Program} {w : World} {K : PySem.W.Frag} {mg : Str → Option Value} {base : Heap} {cx : CXT} {x : Str} {j k : Nat} {ps : List Str} {sp : Sp} (h : Kn P w K mg base cx x j ps sp) (l : j ≤ k) : Kn P w K mg base cx x k ps sp := by
  obtain ⟨f, fd, F, a, b, c⟩ := h
  exact ⟨f, fd, F.mono l, a, b, c⟩

/-! ### the program's ratios -/
def CDivWN (_ j : Int) : Prop := j ≠ 0 ∧ j.natAbs.log2 < 9000
theorem op_fdivWN {X : Cx} : OpR X (binaryOp .FloorDiv) (rI CDivWN fun i j => .int (i.fdiv j)) := opI fun _ _ _ _ _ _ _ hc q => PyProof.Rows.floordiv_int hc.1 q (.inl (PyProof.noPylong_of_log2 hc.2))
/-- X() of an own exception class without __init__ -/
theorem pmk_own0 {X : Cx} {C : Addr} {bmB : List Value} {B newId initId : String} {x : Str} {p pos : Pos} (F : ExcBaseFacts B newId initId bmB) (xP : PySem.W.excIn X.K C bmB newId = true) (gP : X.mg x = some (.ref C))
    (kP : PySem.W.keepIn X.K (.ref C) = true) (rP : Raises X (.ref C)) (hg : Gl X x) (hdb : (x == ("__debug__" : Str)) = false := by decide) : PMk X (.Call (.Name x p) [] [] pos) (fun _ H Q => Q (.ref C) none H) := by
  intro pins s σ H Q I want
  refine wpAny_Call_Name_kw (ld_glob I hg gP ?_ hdb)
  refine PySem.W.callWith_K0 I.kIn kP ?_
  show wpAny _ _ (call (.ref C) []) _ _ _
  obtain ⟨bm, N, nm, qn, bs, hdct, sn, sub, ab, col, dd, k0, k1, k2, k3, k5, mN, at0, hN, hni, T⟩ := exc_obj I.kIn xP
  refine wpAny_call_exc_subT F T at0 hN hni (fun h' e made => ?_) (Nat.zero_le _)
  exact mk_of I made rP want (I.hok.gone made.new)
/-- an error class with one field: what is known of it -/
def spErrInit (C : Addr) (fld : Str) : Sp := fun vs H Q _ => ∃ (e : Addr) (v : V), vs = [.ref e, v] ∧ H e = some (exo e C none) ∧ ∀ dx, H dx = none → dx ≠ e → Q .non (upd (upd H dx (exd dx [(fld, v)])) e (exo e C (some dx)))
structure ErrF (P : Program) (w : World) (K : PySem.W.Frag) (mg : Str → Option Value) (base : Heap) (x fld : Str) (C : Addr) : Prop where
  gC : mg x = some (.ref C)
  ox : OexC K C
  xf : XfC K C
  no : PySem.W.findIn K (.ref C) fld = some none
  ec : ExcC K C
  ex : PySem.W.exmOne K (.ref C) (.ref C) = some true
  ini : ∃ fI fdI, PySem.W.findIn K (.ref C) "__init__" = some (some (.ref fI)) ∧ PySem.W.typeIn K (.ref fI) = some (.type "function") ∧ FnOk P w K mg base CX0 1 fI fdI ["self", fld] (spErrInit C fld) ∧ Binds K fdI ["self", fld] []
/-- an error class without fields -/
structure ErrZ (K : PySem.W.Frag) (mg : Str → Option Value) (x : Str) (C : Addr) : Prop where
  gP : mg x = some (.ref C)
  xP : PySem.W.excIn K C [.type "ValueError", .type "Exception", .type "BaseException", .type "object"] "ValueError.__new__" = true
  kP : PySem.W.keepIn K (.ref C) = true
  bP : PySem.W.subIn K (.ref C) (.type "BaseException") = some true
  tP : PySem.W.typeIn K (.ref C) = some (.type "type")
  ec : ExcC K C
  ex : PySem.W.exmOne K (.ref C) (.ref C) = some true
/-- a def with one default, 1 -/
def Df1 (K : PySem.W.Frag) (mg : Str → Option Value) (x : Str) (st : Stmt) (ps : List Str) : Prop :=
  ∃ f fd, FunD K x x (defArgs st) (defBody st) (defScope st) [.int 1] [] f fd ∧ mg x = some (.ref f) ∧ Binds K fd ps [] ∧ ∃ ds, Vals [.int 1] ds ∧ Binds K fd ps ds
def Kn1 (P : Program) (w : World) (K : PySem.W.Frag) (mg : Str → Option Value) (base : Heap) (cx : CXT) (x : Str) (k : Nat) (ps : List Str) (sp : Sp) : Prop :=
  ∃ f fd, FnOk P w K mg base cx k f fd ps sp ∧ mg x = some (.ref f) ∧ PySem.W.keepIn K (.ref f) = true ∧ Binds K fd ps [] ∧ ∃ ds, Vals [.int 1] ds ∧ Binds K fd ps ds
def spAsRatio (K : PySem.W.Frag) (C : Addr) : Sp := fun vs H Q E => ∃ (v : V) (d : PyData), vs = [v] ∧ Dp K H v d ∧ (∀ t m r H', numOf d = some (t, m) → Same H H' → Dp K H' r (rat t m) → Q r H') ∧
  (numOf d = none → ∀ dx H', Same H H' → H' dx = some (.xd [("value", v)]) → E (.ref C) (some dx) H')
/-- top / bottom in lowest terms -/
def nt (t m : Int) : Int := (if m < 0 then -t else t) / (Int.gcd t m : Int)
def nb (t m : Int) : Int := (m.natAbs : Int) / (Int.gcd t m : Int)
theorem gcd_pos {t m : Int} (h : m ≠ 0) : 0 < (Int.gcd t m : Int) := by
  have := Int.gcd_pos_of_ne_zero_right t h
  omega
theorem gcd_le {t m : Int} (h : m ≠ 0) : Int.gcd t m ≤ m.natAbs := Nat.le_of_dvd (by omega) (Nat.gcd_dvd_right t.natAbs m.natAbs)
theorem gcd_log {t m : Int} (h : m ≠ 0) (hB : m.natAbs < 2 ^ 8000) : (Int.gcd t m : Int).natAbs.log2 < 9000 :=
  Nat.lt_trans (PySem.Flt.log2_lt_of (by decide) (show (Int.gcd t m : Int).natAbs < 2 ^ 8000 from Nat.lt_of_le_of_lt (gcd_le h) hB)) (by decide)
theorem nt_pos {t m : Int} (h : ¬ m < 0) (g : 0 < (Int.gcd t m : Int)) : t.fdiv (Int.gcd t m : Int) = nt t m := by
  unfold nt
  rw [if_neg h, Int.fdiv_eq_ediv_of_nonneg _ (by omega)]
theorem nb_pos {t m : Int} (h : ¬ m < 0) (g : 0 < (Int.gcd t m : Int)) : m.fdiv (Int.gcd t m : Int) = nb t m := by
  unfold nb
  rw [Int.fdiv_eq_ediv_of_nonneg _ (by omega), show (m.natAbs : Int) = m by omega]
theorem nt_neg {t m : Int} (h : m < 0) (g : 0 < (Int.gcd t m : Int)) : t.fdiv (-(Int.gcd t m : Int)) = nt t m := by
  unfold nt
  rw [if_pos h, ← Int.fdiv_eq_ediv_of_nonneg _ (by omega), ← Int.neg_fdiv_neg, Int.neg_neg]
theorem nb_neg {t m : Int} (h : m < 0) (g : 0 < (Int.gcd t m : Int)) : m.fdiv (-(Int.gcd t m : Int)) = nb t m := by
  unfold nb
  rw [show (m.natAbs : Int) = -m by omega, ← Int.fdiv_eq_ediv_of_nonneg _ (by omega), ← Int.neg_fdiv_neg, Int.neg_neg]
def spRatio (C : Addr) : Sp := fun vs H Q E => ∃ t m : Int, vs = [.int t, .int m] ∧ (m ≠ 0 → (Int.gcd t m : Int).natAbs.log2 < 9000) ∧ (m ≠ 0 → ∀ p H', Same H H' → H' p = some (.tup [.int (nt t m), .int (nb t m)]) → Q (.ref p) H') ∧ (m = 0 → E (.ref C) none H)
theorem ratOf_is {d : PyData} {z : Int × Int} (h : ratOf d = some z) : d = rat z.1 z.2 := by
  unfold ratOf at h
  split at h
  · unfold rat2 at h
    split at h
    · rename_i a b
      cases a <;> first | cases h | skip
      cases b <;> first | cases h | skip
      rename_i x y
      simp only [intOf] at h
      split at h
      · cases h
        rfl
      · cases h
    · cases h
  · cases h
structure Gt (mg : Str → Option Value) : Prop where
  g_gcd : mg "gcd" = some (.builtin "math.gcd")
section
variable {P : Program} {w : World} {K : PySem.W.Frag} {mg : Str → Option Value} {base : Heap}
theorem ok_is_whole (T : Bt mg) (D : Df K mg "is_whole" s_is_whole ["value"]) : Kn P w K mg base CX0 "is_whole" 1 ["value"] (spD K wholeD) := by
  obtain ⟨f, fd, F, hm, hb⟩ := D
  refine ⟨f, fd, F.ok sc_is_whole (fun vs H Q E h => ?_) (fun cdv A outer s H vs Q E hr h => ?_), hm, F.kp, hb⟩
  · obtain ⟨v, d, rfl, _⟩ := h
    rfl
  · obtain ⟨v, d, rfl, hd, q⟩ := h
    refine ⟨_, (pss_one (ps_ret (pe_and (pe_callB (cr_isi (K := K) rfl) (by rfl) T.n_isinstance (by decide +kernel) (pa_cons (pv 0) (pa_cons (pe_bltn (v := .ty "int") (by rfl) T.n_int (by decide +kernel) rfl) pa_nil))) (pe_one (pe_not (pe_callB (cr_isi (K := K) rfl) (by rfl) T.n_isinstance (by decide +kernel) (pa_cons (pv 0) (pa_cons (pe_bltn (v := .ty "bool") (by rfl) T.n_bool (by decide +kernel) rfl) pa_nil)))))))), ?_⟩
    have q0 := q H (Same.refl H)
    refine ⟨_, rfl, _, _, _, _, _, rfl, .ty _, dp_ty hd, kit_ty (kb_int d), _, rfl, ?_⟩
    refine ite2 (fun c => ?_) (fun c => ?_)
    · refine ⟨_, rfl, _, _, _, _, _, rfl, .ty _, dp_ty hd, kit_ty (kb_bool d), _, rfl, ?_⟩
      have e : (!isBool d) = wholeD d := by cases d <;> first | rfl | cases c
      rw [e]
      exact q0
    · have e : false = wholeD d := by cases d <;> first | rfl | exact absurd rfl c
      rw [e]
      exact q0
theorem ok_is_ratio (T : Bt mg) (Tg : Gt mg) (GW : Kn P w K mg base CX0 "is_whole" 1 ["value"] (spD K wholeD)) (D : Df K mg "is_ratio" s_is_ratio ["value"]) : Kn P w K mg base CX0 "is_ratio" 2 ["value"] (spD K isRat) := by
  obtain ⟨f, fd, F, hm, hb⟩ := D
  obtain ⟨f_is_whole, fd_is_whole, G_is_whole, m_is_whole, k_is_whole, b_is_whole⟩ := GW
  refine ⟨f, fd, F.ok sc_is_ratio (fun vs H Q E h => ?_) (fun cdv A outer s H vs Q E hr h => ?_), hm, F.kp, hb⟩
  · obtain ⟨v, d, rfl, _⟩ := h
    rfl
  · obtain ⟨v, d, rfl, hd, q⟩ := h
    refine ⟨_, (pss_cons (ps_if (PW.pt (pw_or (pt_not (pt_val (pe_callB (cr_isi (K := K) rfl) (by rfl) T.n_isinstance (by decide +kernel) (pa_cons (pv 0) (pa_cons (pe_bltn (v := .ty "tuple") (by rfl) T.n_tuple (by decide +kernel) rfl) pa_nil))))) (pw_or1 (pt_cmpR op_ne (pe_callB call_len_seq (by rfl) T.n_len (by decide +kernel) (pa_cons (pv 0) pa_nil)) pe_int (nomark _))))) (pss_one (ps_ret pe_bl)) pss_nil)
      (pss_cons (ps_asg (pv 0) (pg_tup (by rfl) (pgs_cons (pg_name (i := 1) sc_is_ratio.nd rfl (Or.inl rfl)) (pgs_cons (pg_name (i := 2) sc_is_ratio.nd rfl (Or.inl rfl)) pgs_nil))))
      (pss_cons (ps_if (PW.pt (pw_or (pt_not (pt_val (pe_call G_is_whole (hr.mono (by omega)) rfl m_is_whole k_is_whole b_is_whole .nil pass0 (pa_cons (pv 1) pa_nil)))) (pw_or (pt_not (pt_val (pe_call G_is_whole (hr.mono (by omega)) rfl m_is_whole k_is_whole b_is_whole .nil pass0 (pa_cons (pv 2) pa_nil)))) (pw_or1 (pt_cmpR op_lt (pv 2) pe_int (nomark _)))))) (pss_one (ps_ret pe_bl)) pss_nil)
      (pss_one (ps_ret (pe_cmpR op_eq (pe_callBfun cr_gcd rfl Tg.g_gcd (pa_cons (pv 1) (pa_cons (pv 2) pa_nil))) pe_int (nomark _))))))), ?_⟩
    refine ⟨_, rfl, _, _, _, _, _, rfl, .ty _, dp_ty hd, kit_ty (kb_tup d), _, rfl, ?_⟩
    refine ite2 (fun c => ?_) (fun c => ?_)
    · have e : isRat d = false := by cases d <;> first | rfl | cases c
      have q0 := q H (Same.refl H)
      rw [e] at q0
      exact q0
    · obtain ⟨ds, rfl⟩ : ∃ ds, d = .tuple ds := by cases d <;> first | exact ⟨_, rfl⟩ | exact absurd rfl c
      cases hd with
      | @tup a xs _ hs ha =>
        have hl := dps_len ha
        refine ⟨_, rfl, a, _, rfl, .inr hs, rfl, _, rfl, ?_⟩
        refine ite2 (fun c2 => ?_) (fun c2 => ?_)
        · have e : isRat (.tuple ds) = false := by
            match ds, xs, hl, c2 with
            | [], _, _, _ => rfl
            | [_], _, _, _ => rfl
            | [_, _], xs, hl, c2 =>
              have hl2 : xs.length = 2 := hl
              rw [hl2] at c2
              exact absurd c2 (by decide)
            | _ :: _ :: _ :: _, _, _, _ => rfl
          have q0 := q H (Same.refl H)
          rw [e] at q0
          exact q0
        · have h2 : xs.length = 2 := by
            by_cases z : (xs.length : Int) = 2
            · omega
            · exact absurd (by simp [z]) c2
          obtain ⟨d1, d2, rfl⟩ : ∃ d1 d2, ds = [d1, d2] := by
            rw [h2] at hl
            match ds, hl with
            | [d1, d2], _ => exact ⟨d1, d2, rfl⟩
          cases ha with
          | @cons x1 _ _ _ h1 ha =>
            cases ha with
            | @cons x2 _ _ _ hx2 ha =>
              cases ha
              refine ⟨_, rfl, a, _, rfl, hs, rfl, x1, _, rfl, x2, _, rfl, rfl, ?_⟩
              refine ⟨_, rfl, x1, d1, rfl, h1, fun H1 s1 => ⟨_, rfl, ?_⟩⟩
              refine ite2 (fun c3 => ?_) (fun c3 => ?_)
              · have e : isRat (.tuple [d1, d2]) = false := by cases d1 <;> first | rfl | cases c3
                have q0 := q H1 s1
                rw [e] at q0
                exact q0
              · obtain ⟨t, rfl⟩ : ∃ t, d1 = .int t := by cases d1 <;> first | exact ⟨_, rfl⟩ | exact absurd rfl c3
                refine ⟨_, rfl, x2, d2, rfl, dp_same s1 _ _ hx2, fun H2 s2 => ⟨_, rfl, ?_⟩⟩
                refine ite2 (fun c4 => ?_) (fun c4 => ?_)
                · have e : isRat (.tuple [.int t, d2]) = false := by cases d2 <;> first | rfl | cases c4
                  have q0 := q H2 (s1.trans s2)
                  rw [e] at q0
                  exact q0
                · obtain ⟨m, rfl⟩ : ∃ m, d2 = .int m := by cases d2 <;> first | exact ⟨_, rfl⟩ | exact absurd rfl c4
                  cases h1
                  cases hx2
                  refine ⟨_, rfl, _, _, rfl, rfl, _, rfl, ?_⟩
                  refine ite2 (fun c5 => ?_) (fun c5 => ?_)
                  · have c6 : m < 1 := of_decide_eq_true c5
                    have e : isRat (.tuple [.int t, .int m]) = false := by
                      show (if 1 ≤ m ∧ Int.gcd t m = 1 then some (t, m) else none).isSome = false
                      rw [if_neg (by omega)]
                      rfl
                    have q0 := q H2 (s1.trans s2)
                    rw [e] at q0
                    exact q0
                  · have c6 : ¬ m < 1 := of_decide_eq_false (Bool.eq_false_iff.mpr c5)
                    refine ⟨_, rfl, _, rfl, _, _, rfl, rfl, ?_⟩
                    have e : isRat (.tuple [.int t, .int m]) = decide ((V.int ((Nat.gcd t.natAbs m.natAbs : Nat) : Int)) = V.int 1) := by
                      show (if 1 ≤ m ∧ Int.gcd t m = 1 then some (t, m) else none).isSome = _
                      have g : Int.gcd t m = Nat.gcd t.natAbs m.natAbs := rfl
                      rw [g]
                      by_cases z : Nat.gcd t.natAbs m.natAbs = 1
                      · rw [if_pos ⟨by omega, z⟩, z]
                        rfl
                      · rw [if_neg (fun y => z y.2)]
                        symm
                        apply decide_eq_false
                        intro y
                        injection y with y
                        omega
                    have q0 := q H2 (s1.trans s2)
                    rw [e] at q0
                    exact q0
theorem ok_errinit {x : Str} {C f : Addr} {fd : FuncData} (F : Fun K "__init__" x s_InvalidNumber_init f fd) (ox : OexC K C) (no : PySem.W.findIn K (.ref C) "value" = some none) : FnOk P w K mg base CX0 1 f fd ["self", "value"] (spErrInit C "value") := by
  refine F.ok sc_InvalidNumber_init (fun vs H Q E h => ?_) (fun cdv A outer s H vs Q E hr h => ?_)
  · obtain ⟨e, v, rfl, _⟩ := h
    rfl
  · obtain ⟨e, v, rfl, he, q⟩ := h
    refine ⟨_, pss_one (ps_ost (pv 0) (pv 1)), ?_⟩
    exact ⟨_, rfl, _, rfl, e, C, rfl, ox, no, .inl ⟨he, fun dx h1 h2 => q dx h1 h2⟩⟩
theorem ok_as_ratio {C : Addr} (T : Bt mg) (Ti : ErrF P w K mg base "InvalidNumber" "value" C) (GW : Kn P w K mg base CX0 "is_whole" 1 ["value"] (spD K wholeD)) (GR : Kn P w K mg base CX0 "is_ratio" 2 ["value"] (spD K isRat)) (D : Df K mg "as_ratio" s_as_ratio ["value"]) :
    Kn P w K mg base (L2.CX P w) "as_ratio" 3 ["value"] (spAsRatio K C) := by
  obtain ⟨f, fd, F, hm, hb⟩ := D
  obtain ⟨f_is_whole, fd_is_whole, G_is_whole, m_is_whole, k_is_whole, b_is_whole⟩ := GW
  obtain ⟨f_is_ratio, fd_is_ratio, G_is_ratio, m_is_ratio, k_is_ratio, b_is_ratio⟩ := GR
  obtain ⟨fI, fdI, iC, tI, F1, b1⟩ := Ti.ini
  refine ⟨f, fd, F.okX sc_as_ratio (fun vs H Q E h => ?_) (fun cdv A outer s H vs Q E hr h => ?_), hm, F.kp, hb⟩
  · obtain ⟨v, d, rfl, _⟩ := h
    rfl
  · obtain ⟨v, d, rfl, hd, q1, q2⟩ := h
    refine ⟨_, (pss_cons (ps_if (pt_val (pe_call G_is_whole (hr.mono (by omega)) rfl m_is_whole k_is_whole b_is_whole .nil pass0 (pa_cons (pv 0) pa_nil))) (pss_one (ps_ret (pe_tup (pa_cons (pv 0) (pa_cons pe_int pa_nil))))) pss_nil)
      (pss_cons (ps_if (pt_not (pt_val (pe_call G_is_ratio (hr.mono (by omega)) rfl m_is_ratio k_is_ratio b_is_ratio .nil pass0 (pa_cons (pv 0) pa_nil)))) (pss_one (ps_raise rfl (takes_of rfl rfl rfl rfl) (pmk_oex Ti.ox iC tI F1 (hr.mono (by omega)) b1 .nil pass0 rfl Ti.gC (pa_cons (pv 0) pa_nil)))) pss_nil)
      (pss_one (ps_ret (pv 0))))), ?_⟩
    refine ⟨_, rfl, v, d, rfl, hd, fun H1 s1 => ⟨_, rfl, ?_⟩⟩
    have hd1 := dp_same s1 _ _ hd
    refine ite2 (fun c => ?_) (fun c => ?_)
    · obtain ⟨t, rfl⟩ : ∃ t, d = .int t := by cases d <;> first | exact ⟨_, rfl⟩ | cases c
      cases hd
      refine ⟨_, rfl, (by show 2 ≤ sizeLine; decide), fun p np => ?_⟩
      exact q1 t 1 _ _ rfl (s1.trans (same_new np _)) (dp_rat upd_same)
    · refine ⟨_, rfl, v, d, rfl, hd1, fun H2 s2 => ⟨_, rfl, ?_⟩⟩
      refine ite2 (fun c2 => ?_) (fun c2 => ?_)
      · have e : numOf d = none := by
          cases hr : ratOf d with
          | some z =>
            unfold isRat at c2
            rw [hr] at c2
            cases c2
          | none =>
            cases d <;> first | exact hr | exact absurd rfl c
        refine ⟨_, rfl, (by show 1 ≤ 1000; decide), fun a na => ?_⟩
        refine ⟨a, v, rfl, upd_same, fun dx hdx nx => ⟨rfl, dx, [("value", v)], upd_same, ?_, ?_, ?_⟩⟩
        · rw [upd_ne nx, upd_same]
        · rw [upd_ne nx] at hdx
          exact hdx
        · rw [upd_ne nx] at hdx
          refine q2 e dx _ (s1.trans (s2.trans fun b o hbo => ?_)) upd_same
          have n1 : b ≠ a := ne_of_none hbo na
          have n2 : b ≠ dx := ne_of_none hbo hdx
          rw [upd_ne n2, del_ne n1, upd_ne n1, upd_ne n2, upd_ne n1]
          exact hbo
      · refine ⟨_, rfl, ?_⟩
        obtain ⟨t, m, hr, rfl⟩ : ∃ t m, ratOf d = some (t, m) ∧ d = rat t m := by
          cases hr : ratOf d with
          | none =>
            unfold isRat at c2
            rw [hr] at c2
            exact absurd rfl c2
          | some z => exact ⟨z.1, z.2, rfl, ratOf_is hr⟩
        exact q1 t m _ _ hr (s1.trans s2) (dp_same s2 _ _ hd1)
end

section
variable {P : Program} {w : World} {K : PySem.W.Frag} {mg : Str → Option Value} {base : Heap}
theorem ok_ratio {C : Addr} (T : Bt mg) (Tg : Gt mg) (Tz : ErrZ K mg "ZeroBottom" C) (D : Df1 K mg "ratio" s_ratio ["top", "bottom"]) : Kn1 P w K mg base (L2.CX P w) "ratio" 1 ["top", "bottom"] (spRatio C) := by
  obtain ⟨f, fd, F, hm, hb, hb1⟩ := D
  refine ⟨f, fd, F.ok sc_ratio (fun vs H Q E h => ?_) (fun cdv A outer s H vs Q E hr h => ?_), hm, F.kp, hb, hb1⟩
  · obtain ⟨t, m, rfl, _⟩ := h
    rfl
  · obtain ⟨t, m, rfl, hB, q1, q2⟩ := h
    refine ⟨_, (pss_cons (ps_if (pt_cmpR op_eq (pv 1) pe_int (nomark _)) (pss_one (ps_raise rfl (takes_of rfl rfl rfl rfl) (pmk_own0 PySem.F.excBase_ValueError Tz.xP Tz.gP Tz.kP (raises_own Tz.bP Tz.tP) rfl))) pss_nil)
      (pss_cons (ps_set (i := 2) sc_ratio.nd rfl (Or.inl rfl) (pe_callBfun cr_gcd rfl Tg.g_gcd (pa_cons (pv 0) (pa_cons (pv 1) pa_nil))))
      (pss_cons (ps_if (pt_cmpR op_lt (pv 1) pe_int (nomark _)) (pss_one (ps_set (i := 2) sc_ratio.nd rfl (Or.inl rfl) (pe_un un_neg (pv 2)))) pss_nil)
      (pss_one (ps_ret (pe_tup (pa_cons (pe_op op_fdivWN (pv 0) (pv 2)) (pa_cons (pe_op op_fdivWN (pv 1) (pv 2)) pa_nil)))))))), ?_⟩
    refine ⟨_, rfl, rfl, _, rfl, ?_⟩
    refine ite2 (fun c => ?_) (fun c => ?_)
    · have e : m = 0 := by
        have z := of_decide_eq_true c
        injection z
      exact q2 e
    · have e : m ≠ 0 := fun z => c (by rw [z]; rfl)
      refine ⟨_, rfl, _, rfl, _, _, rfl, ?_⟩
      have g0 : (Int.gcd t m : Int) = ((Nat.gcd t.natAbs m.natAbs : Nat) : Int) := rfl
      rw [← g0]
      have gp := gcd_pos (t := t) e
      have gl := hB e
      refine ⟨_, rfl, _, _, rfl, rfl, _, rfl, ?_⟩
      refine ite2 (fun c2 => ?_) (fun c2 => ?_)
      · have c3 : m < 0 := of_decide_eq_true c2
        refine ⟨_, rfl, _, rfl, ?_⟩
        refine ⟨_, rfl, _, rfl, _, _, rfl, rfl, ⟨by omega, by rw [Int.natAbs_neg]; exact gl⟩, _, rfl, _, rfl, _, _, rfl, rfl, ⟨by omega, by rw [Int.natAbs_neg]; exact gl⟩, (by show 2 ≤ sizeLine; decide), fun p np => ?_⟩
        refine q1 e p _ (same_new np _) ?_
        rw [upd_same, ← nt_neg c3 gp, ← nb_neg c3 gp]
      · have c3 : ¬ m < 0 := of_decide_eq_false (Bool.eq_false_iff.mpr c2)
        refine ⟨_, rfl, _, rfl, _, _, rfl, rfl, ⟨by omega, gl⟩, _, rfl, _, rfl, _, _, rfl, rfl, ⟨by omega, gl⟩, (by show 2 ≤ sizeLine; decide), fun p np => ?_⟩
        refine q1 e p _ (same_new np _) ?_
        rw [upd_same, ← nt_pos c3 gp, ← nb_pos c3 gp]
end

/-! ### the law's own draws and checks -/
theorem map_get {ns : List Int} {i : Nat} {x : V} (h : (ns.map V.int)[i]? = some x) : ∃ z, ns[i]? = some z ∧ x = V.int z := by
  rw [List.getElem?_map] at h
  cases e : ns[i]? with
  | none =>
    rw [e] at h
    cases h
  | some z =>
    rw [e] at h
    exact ⟨z, rfl, (Option.some.inj h).symm⟩
theorem take_more {α : Type} : ∀ {l : List α} {i : Nat} {x : α}, l[i]? = some x → l.take (i + 1) = l.take i ++ [x]
  | [], i, x, h => by simp at h
  | a :: l, 0, x, h => by
    have e := Option.some.inj h
    subst e
    rfl
  | a :: l, i + 1, x, h => congrArg (a :: ·) (take_more (l := l) (i := i) h)
theorem same_upd {H H1 : Hp} {D : Addr} {o : HO} (s : Same H H1) (h : H D = none) : Same H (upd H1 D o) := fun b u q => by
  rw [upd_ne (ne_of_none q h)]
  exact s _ _ q
theorem get_lt {α : Type} {l : List α} {i : Nat} {x : α} (h : l[i]? = some x) : i < l.length := (List.getElem?_eq_some_iff.mp h).1
/-- an item of a list at a drawn place -/
theorem at_lt {xs : List V} {r : Int} (h0 : 0 ≤ r) (h1 : r < xs.length) : ∃ v, v ∈ xs ∧ atI xs r = some v := by
  obtain ⟨k, rfl⟩ : ∃ k : Nat, r = (k : Int) := ⟨r.toNat, by omega⟩
  have hk : k < xs.length := by omega
  exact ⟨xs[k], List.getElem_mem hk, atI_nat (List.getElem?_eq_getElem hk)⟩
def mk (b g : Addr) (H : Hp) : Hp := fun a => if a = b ∨ a = g then none else H a
theorem mk_sub (b g : Addr) (H : Hp) : Same (mk b g H) H := fun a o h => by
  unfold mk at h
  split at h
  · cases h
  · exact h
theorem mk_but {b g : Addr} {H H' : Hp} (x : But b g H H') : Same (mk b g H) (mk b g H') := fun a o h => by
  unfold mk at h ⊢
  split at h
  · cases h
  · rename_i z
    rw [if_neg z]
    exact x a o h (fun y => z (.inl y)) (fun y => z (.inr y))
theorem mk_new {H : Hp} {b g c p : Addr} {n : Nat} {o : HO} (B : Box H b g c n) (np : H p = none) : mk b g (upd H p o) p = some o := by
  obtain ⟨gs, cs, cur, m, B, _⟩ := B
  unfold mk
  rw [if_neg (fun y => y.elim (fun e => by rw [e, B.hb] at np; cases np) (fun e => by rw [e, B.hg] at np; cases np)), upd_same]
theorem mk_tup {H : Hp} {b g c p : Addr} {n : Nat} {xs : List V} (B : Box H b g c n) (h : H p = some (.tup xs)) : mk b g H p = some (.tup xs) := by
  obtain ⟨gs, cs, cur, m, B, _⟩ := B
  unfold mk
  rw [if_neg (fun y => y.elim (fun e => by rw [e, B.hb] at h; cases h) (fun e => by rw [e, B.hg] at h; cases h)), h]
theorem But.tup {H H' : Hp} {b g c p : Addr} {n : Nat} {xs : List V} (x : But b g H H') (B : Box H b g c n) (h : H p = some (.tup xs)) : H' p = some (.tup xs) := by
  obtain ⟨gs, cs, cur, m, B, _⟩ := B
  exact x p _ h (fun e => by rw [e, B.hb] at h; cases h) (fun e => by rw [e, B.hg] at h; cases h)
def spLRatio : Sp := fun vs H Q _ => ∃ t m : Int, vs = [.int t, .int m] ∧ m ≠ 0 ∧ m.natAbs < 2 ^ 8000 ∧ ∀ p H', Same H H' → H' p = some (.tup [.int (nt t m), .int (nb t m)]) → Q (.ref p) H'
section
variable {P : Program} {w : World} {K : PySem.W.Frag} {mg : Str → Option Value} {base : Heap}
theorem ok_box (D : Df K mg "_law_box" s_l_box ["_law_script"]) : Kn P w K mg base CX0 "_law_box" 1 ["_law_script"] (spBox K) := by
  obtain ⟨f, fd, F, hm, hb⟩ := D
  refine ⟨f, fd, F.ok sc_l_box (fun vs H Q E h => ?_) (fun cdv A outer s H vs Q E hr h => ?_), hm, F.kp, hb⟩
  · obtain ⟨a, ns, rfl, _⟩ := h
    rfl
  · obtain ⟨a, ns, rfl, hS, hl, q⟩ := h
    refine ⟨_, (pss_cons (ps_setLc (i := 1) (own := [("_law_cell", 2)]) rfl sc_l_box.nd rfl rfl (sw_true rfl rfl rfl (by decide +kernel)) (pi_list (pv 0)) (blkOk_by (N := ["_law_script", "_law_great", "_law_cell"]) (sc := defScope s_l_box) (by decide +kernel)) (fun _ _ _ _ _ => (pg_name (i := 2) sc_l_box.nd rfl (Or.inl rfl))) (fun _ _ _ _ _ => (pts_one (pt_cmpR op_ge (pv 2) (pe_op op_powB pe_int pe_int) (nomark _)))) (fun _ _ _ _ _ => (pv 2)))
      (pss_one (ps_ret (pe_lst (pa_cons (pv 1) (pa_cons pe_int (pa_cons (pe_lc (own := [("_law_cell", 2)]) rfl sc_l_box.nd (pi_list (pv 0)) (blkOk_by (N := ["_law_script", "_law_great", "_law_cell"]) (sc := defScope s_l_box) (by decide +kernel)) (fun _ _ _ _ _ => (pg_name (i := 2) sc_l_box.nd rfl (Or.inl rfl))) (fun _ _ _ _ _ => (pts_one (pt_cmpR op_lt (pv 2) (pe_op op_powB pe_int pe_int) (nomark _)))) (fun _ _ _ _ _ => (pv 2))) (pa_cons pe_int pa_nil)))))))), ?_⟩
    refine ⟨_, rfl, a, rfl, ⟨_, hS⟩, fun D hD => ?_⟩
    refine lc_list (K := K) (a := a) (xs := ns.map V.int) (fun i H' => Same H H' ∧ ∃ acc : List Int, H' D = some (.lst (acc.map V.int)) ∧ acc.length ≤ i) ⟨same_new hD _, [], upd_same, Nat.le_refl _⟩ (fun i H' _ h => h.1.seq hS) ?_ ?_
    · rintro i x H1 hx ⟨s1, acc, hacc, hlen⟩
      obtain ⟨z, hz, rfl⟩ := map_get hx
      have hi := get_lt hz
      refine ⟨rfl, _, rfl, _, _, rfl, rfl, ⟨by decide, by decide +kernel⟩, _, _, rfl, rfl, _, rfl, ?_⟩
      refine ite2 (fun _ => ?_) (fun _ => ?_)
      · refine ⟨_, rfl, _, hacc, (by rw [List.length_map]; exact small1000 (by omega)), same_upd s1 hD, acc ++ [z], (by rw [upd_same, List.map_append]; rfl), by rw [List.length_append]; exact Nat.succ_le_succ hlen⟩
      · exact ⟨s1, acc, hacc, by omega⟩
    · rintro H1 ⟨s1, gs, hg, hgl⟩
      rw [List.length_map] at hgl
      refine ⟨_, rfl, _, rfl, a, rfl, ⟨_, s1.seq hS⟩, fun D2 hD2 => ?_⟩
      refine lc_list (K := K) (a := a) (xs := ns.map V.int) (fun i H' => Same H1 H' ∧ ∃ acc : List Int, H' D2 = some (.lst (acc.map V.int)) ∧ acc.length ≤ i) ⟨same_new hD2 _, [], upd_same, Nat.le_refl _⟩ (fun i H' _ h => (s1.trans h.1).seq hS) ?_ ?_
      · rintro i x H2 hx ⟨s2, acc, hacc, hlen⟩
        obtain ⟨z, hz, rfl⟩ := map_get hx
        have hi := get_lt hz
        refine ⟨rfl, _, rfl, _, _, rfl, rfl, ⟨by decide, by decide +kernel⟩, _, _, rfl, rfl, _, rfl, ?_⟩
        refine ite2 (fun _ => ?_) (fun _ => ?_)
        · refine ⟨_, rfl, _, hacc, (by rw [List.length_map]; exact small1000 (by omega)), same_upd s2 hD2, acc ++ [z], (by rw [upd_same, List.map_append]; rfl), by rw [List.length_append]; exact Nat.succ_le_succ hlen⟩
        · exact ⟨s2, acc, hacc, by omega⟩
      · rintro H2 ⟨s2, cs, hc, hcl⟩
        rw [List.length_map] at hcl
        refine ⟨(by show 4 ≤ sizeLine; decide), fun p np => ?_⟩
        have hg2 := s2 _ _ hg
        have n1 : p ≠ D := (ne_of_none hg2 np).symm
        have n2 : p ≠ D2 := (ne_of_none hc np).symm
        have n3 : D ≠ D2 := ne_of_none hg hD2
        refine q p D D2 _ ⟨gs, cs, 0, 0, ⟨upd_same, by rw [upd_ne n1.symm]; exact hg2, by rw [upd_ne n2.symm]; exact hc, n1, n2, n3, by decide, by omega, by omega⟩, by decide⟩ ((s1.trans s2).trans (same_new np _)) ((s1.trans s2).free np) hD (s1.free hD2)
theorem ok_lratio (GS : Kn P w K mg base CX0 "_law_shared" 1 ["_law_one", "_law_other"] spShared) (D : Df K mg "_law_ratio" s_l_ratio ["_law_top", "_law_bottom"]) : Kn P w K mg base CX0 "_law_ratio" 2 ["_law_top", "_law_bottom"] spLRatio := by
  obtain ⟨f, fd, F, hm, hb⟩ := D
  obtain ⟨f_l_shared, fd_l_shared, G_l_shared, m_l_shared, k_l_shared, b_l_shared⟩ := GS
  refine ⟨f, fd, F.ok sc_l_ratio (fun vs H Q E h => ?_) (fun cdv A outer s H vs Q E hr h => ?_), hm, F.kp, hb⟩
  · obtain ⟨t, m, rfl, _⟩ := h
    rfl
  · obtain ⟨t, m, rfl, h0, hB, q⟩ := h
    refine ⟨_, (C8.pss_cut (ps_if (pt_cmpR op_lt (pv 1) pe_int (nomark _)) (pss_one (ps_par (i := 0) (j := 1) (by rfl) sc_l_ratio.nd rfl rfl (by decide) rfl rfl (pa_cons (pe_op op_sub pe_int (pv 0)) (pa_cons (pe_op op_sub pe_int (pv 1)) pa_nil)) (by rfl))) pss_nil)
      (pss_cons (ps_set (i := 2) sc_l_ratio.nd rfl (Or.inl rfl) (pe_call G_l_shared (hr.mono (by omega)) rfl m_l_shared k_l_shared b_l_shared .nil pass0 (pa_cons (pv 0) (pa_cons (pv 1) pa_nil))))
      (pss_one (ps_ret (pe_tup (pa_cons (pe_op op_fdivW (pv 0) (pv 2)) (pa_cons (pe_op op_fdivW (pv 1) (pv 2)) pa_nil))))))), ?_⟩
    refine ⟨fun σ H' => H' = H ∧ σ = [some (.int (if m < 0 then -t else t)), some (.int (m.natAbs : Int)), none], ?_, ?_⟩
    · refine ⟨_, rfl, _, _, rfl, rfl, _, rfl, ?_⟩
      refine ite2 (fun c => ?_) (fun c => ?_)
      · have c3 : m < 0 := of_decide_eq_true c
        refine ⟨_, rfl, _, _, rfl, rfl, _, rfl, _, _, rfl, rfl, _, _, rfl, rfl, ?_⟩
        rw [if_pos c3, show -t = 0 - t by omega, show (m.natAbs : Int) = 0 - m by omega]
        rfl
      · have c3 : ¬ m < 0 := of_decide_eq_false (Bool.eq_false_iff.mpr c)
        refine ⟨rfl, ?_⟩
        rw [if_neg c3, show (m.natAbs : Int) = m by omega]
        rfl
    · rintro σ H' ⟨rfl, rfl⟩
      have e : (Int.gcd (if m < 0 then -t else t) (m.natAbs : Int) : Int) = (Int.gcd t m : Int) := by
        unfold Int.gcd
        split <;> simp
      refine ⟨_, rfl, _, rfl, _, _, rfl, ?_⟩
      rw [e]
      have gp := gcd_pos (t := t) h0
      have gB : (Int.gcd t m : Int).natAbs < 2 ^ 8000 := Nat.lt_of_le_of_lt (gcd_le h0) hB
      refine ⟨_, rfl, _, rfl, _, _, rfl, rfl, wide_div gp gB (by decide) (by decide), _, rfl, _, rfl, _, _, rfl, rfl, wide_div gp gB (by decide) (by decide), (by show 2 ≤ sizeLine; decide), fun p np => ?_⟩
      exact q p _ (same_new np _) upd_same
end

/-! ### ratios in lowest terms -/
structure Red (z : Int × Int) : Prop where
  pos : 0 < z.2
  co : Int.gcd z.1 z.2 = 1
def nrm (t m : Int) : Int × Int := (nt t m, nb t m)
theorem gcd_abs (t m : Int) : Int.gcd (if m < 0 then -t else t) (m.natAbs : Int) = Int.gcd t m := by
  unfold Int.gcd
  split <;> simp
theorem nrm_red {t m : Int} (h : m ≠ 0) : Red (nrm t m) := by
  have gp := gcd_pos (t := t) h
  have e := gcd_abs t m
  refine ⟨?_, ?_⟩
  · show 0 < (m.natAbs : Int) / (Int.gcd t m : Int)
    have d : (Int.gcd t m : Int) ∣ (m.natAbs : Int) := Int.natAbs_dvd_natAbs.mp (by simp [Int.gcd]; exact Nat.gcd_dvd_right _ _)
    have c := Int.ediv_mul_cancel d
    have z : (m.natAbs : Int) / (Int.gcd t m : Int) ≠ 0 := fun q => by
      rw [q] at c
      omega
    have z2 : 0 ≤ (m.natAbs : Int) / (Int.gcd t m : Int) := Int.ediv_nonneg (by omega) (by omega)
    omega
  · show Int.gcd ((if m < 0 then -t else t) / (Int.gcd t m : Int)) ((m.natAbs : Int) / (Int.gcd t m : Int)) = 1
    rw [← e]
    exact Int.gcd_ediv_gcd_ediv_gcd (by rw [e]; omega)
theorem nrm_cross {t m : Int} (h : m ≠ 0) : (nrm t m).1 * m = t * (nrm t m).2 := by
  have d1 : (Int.gcd t m : Int) ∣ t := Int.gcd_dvd_left ..
  have d2 : (Int.gcd t m : Int) ∣ m := Int.gcd_dvd_right ..
  obtain ⟨a, ha⟩ := d1
  obtain ⟨b, hb⟩ := d2
  have gp := gcd_pos (t := t) h
  have e1 : (nrm t m).1 = (if m < 0 then -a else a) := by
    show (if m < 0 then -t else t) / (Int.gcd t m : Int) = _
    generalize (Int.gcd t m : Int) = g at *
    subst ha
    split
    · rw [show -(g * a) = g * (-a) by grind, Int.mul_ediv_cancel_left _ (by omega)]
    · rw [Int.mul_ediv_cancel_left _ (by omega)]
  have e2 : (nrm t m).2 = (if m < 0 then -b else b) := by
    show (m.natAbs : Int) / (Int.gcd t m : Int) = _
    have z : (m.natAbs : Int) = if m < 0 then -m else m := by split <;> omega
    rw [z]
    clear z
    generalize (Int.gcd t m : Int) = g at *
    clear ha e1
    split
    · rw [hb, show -(g * b) = g * (-b) by grind, Int.mul_ediv_cancel_left _ (by omega)]
    · rw [hb, Int.mul_ediv_cancel_left _ (by omega)]
  rw [e1, e2]
  generalize (Int.gcd t m : Int) = g at *
  split <;> (rename_i w; clear e1 e2 w h gp; subst ha; subst hb; grind)
theorem red_uniq {a b : Int × Int} (ha : Red a) (hb : Red b) (e : a.1 * b.2 = b.1 * a.2) : a = b := by
  have pa := ha.pos
  have pb := hb.pos
  have e' : a.1.natAbs * b.2.natAbs = b.1.natAbs * a.2.natAbs := by rw [← Int.natAbs_mul, ← Int.natAbs_mul, e]
  have c1 : Nat.Coprime a.2.natAbs a.1.natAbs := Nat.Coprime.symm ha.co
  have c2 : Nat.Coprime b.2.natAbs b.1.natAbs := Nat.Coprime.symm hb.co
  have d1 : a.2.natAbs ∣ b.2.natAbs := c1.dvd_of_dvd_mul_left ⟨b.1.natAbs, by rw [e', Nat.mul_comm]⟩
  have d2 : b.2.natAbs ∣ a.2.natAbs := c2.dvd_of_dvd_mul_left ⟨a.1.natAbs, by rw [← e', Nat.mul_comm]⟩
  have e2 : a.2 = b.2 := by
    have z := Nat.dvd_antisymm d1 d2
    omega
  have e1 : a.1 = b.1 := Int.eq_of_mul_eq_mul_right (a := b.2) (by omega) (by rw [e, e2])
  exact Prod.ext e1 e2
theorem nrm_eq {t m t' m' : Int} (h : m ≠ 0) (h' : m' ≠ 0) (e : t * m' = t' * m) : nrm t m = nrm t' m' := by
  have x := nrm_cross (t := t) h
  have y := nrm_cross (t := t') h'
  refine red_uniq (nrm_red h) (nrm_red h') ?_
  refine Int.eq_of_mul_eq_mul_right (a := m * m') (Int.mul_ne_zero h h') ?_
  generalize (nrm t m).1 = a at *
  generalize (nrm t m).2 = b at *
  generalize (nrm t' m').1 = c at *
  generalize (nrm t' m').2 = d at *
  clear h h'
  grind
theorem nrm_of {z : Int × Int} (h : Red z) : nrm z.1 z.2 = z := by
  have p := h.pos
  have x := nrm_cross (t := z.1) (m := z.2) (by omega)
  exact red_uniq (nrm_red (by omega)) h x
theorem nrm_is {t m : Int} {z : Int × Int} (h : m ≠ 0) (hz : Red z) (e : t * z.2 = z.1 * m) : nrm t m = z := by
  have p := hz.pos
  rw [← nrm_of hz]
  exact nrm_eq h (by omega) e
theorem nt_le (t m : Int) : (nrm t m).1.natAbs ≤ t.natAbs := by
  show ((if m < 0 then -t else t) / (Int.gcd t m : Int)).natAbs ≤ t.natAbs
  refine Nat.le_trans (Int.natAbs_ediv_le_natAbs _ _) ?_
  split <;> omega
theorem nb_le (t m : Int) : (nrm t m).2.natAbs ≤ m.natAbs := by
  show ((m.natAbs : Int) / (Int.gcd t m : Int)).natAbs ≤ m.natAbs
  exact Nat.le_trans (Int.natAbs_ediv_le_natAbs _ _) (by omega)
/-- both parts are below 2 ^ k -/
def Sz (k : Nat) (z : Int × Int) : Prop := z.1.natAbs < 2 ^ k ∧ z.2.natAbs < 2 ^ k
theorem Sz.mono {j k : Nat} {z : Int × Int} (h : Sz j z) (l : j ≤ k) : Sz k z :=
  ⟨Nat.lt_of_lt_of_le h.1 (Nat.pow_le_pow_right (by decide) l), Nat.lt_of_lt_of_le h.2 (Nat.pow_le_pow_right (by decide) l)⟩
theorem sz_nrm {t m : Int} {k : Nat} (h1 : t.natAbs < 2 ^ k) (h2 : m.natAbs < 2 ^ k) : Sz k (nrm t m) := ⟨Nat.lt_of_le_of_lt (nt_le t m) h1, Nat.lt_of_le_of_lt (nb_le t m) h2⟩
theorem lt_mul {x y : Int} {j k : Nat} (h1 : x.natAbs < 2 ^ j) (h2 : y.natAbs < 2 ^ k) : (x * y).natAbs < 2 ^ (j + k) := wide_lt h1 h2
theorem lt_add {x y : Int} {k : Nat} (h1 : x.natAbs < 2 ^ k) (h2 : y.natAbs < 2 ^ k) : (x + y).natAbs < 2 ^ (k + 1) := by
  have := Int.natAbs_add_le x y
  rw [Nat.pow_succ]
  omega
def addz (a b : Int × Int) : Int × Int := nrm (a.1 * b.2 + b.1 * a.2) (a.2 * b.2)
def mulz (a b : Int × Int) : Int × Int := nrm (a.1 * b.1) (a.2 * b.2)
def negz (a : Int × Int) : Int × Int := (-a.1, a.2)
def divz (a b : Int × Int) : Int × Int := nrm (a.1 * b.2) (a.2 * b.1)
theorem mne {a b : Int × Int} (ha : Red a) (hb : Red b) : a.2 * b.2 ≠ 0 := by
  have := ha.pos
  have := hb.pos
  exact Int.mul_ne_zero (by omega) (by omega)
theorem add_red {a b : Int × Int} (ha : Red a) (hb : Red b) : Red (addz a b) := nrm_red (mne ha hb)
theorem mul_red {a b : Int × Int} (ha : Red a) (hb : Red b) : Red (mulz a b) := nrm_red (mne ha hb)
theorem neg_red {a : Int × Int} (ha : Red a) : Red (negz a) := ⟨ha.pos, by show Int.gcd (-a.1) a.2 = 1; rw [Int.neg_gcd]; exact ha.co⟩
theorem add_sz {a b : Int × Int} {j k : Nat} (ha : Sz j a) (hb : Sz k b) : Sz (j + k + 1) (addz a b) := by
  refine sz_nrm (lt_add (lt_mul ha.1 hb.2) ?_) (Nat.lt_of_lt_of_le (lt_mul ha.2 hb.2) (Nat.pow_le_pow_right (by decide) (by omega)))
  rw [Int.mul_comm]
  exact lt_mul ha.2 hb.1
theorem mul_sz {a b : Int × Int} {j k : Nat} (ha : Sz j a) (hb : Sz k b) : Sz (j + k) (mulz a b) := sz_nrm (lt_mul ha.1 hb.1) (lt_mul ha.2 hb.2)
theorem neg_sz {a : Int × Int} {j : Nat} (ha : Sz j a) : Sz j (negz a) := ⟨by show (-a.1).natAbs < _; rw [Int.natAbs_neg]; exact ha.1, ha.2⟩
theorem add_cross {a b : Int × Int} (ha : Red a) (hb : Red b) : (addz a b).1 * (a.2 * b.2) = (a.1 * b.2 + b.1 * a.2) * (addz a b).2 := nrm_cross (mne ha hb)
theorem mul_cross {a b : Int × Int} (ha : Red a) (hb : Red b) : (mulz a b).1 * (a.2 * b.2) = (a.1 * b.1) * (mulz a b).2 := nrm_cross (mne ha hb)
theorem cancel {x y k : Int} (h : k ≠ 0) (e : x * k = y * k) : x = y := Int.eq_of_mul_eq_mul_right h e
theorem add_comm' (a b : Int × Int) : addz a b = addz b a := by
  unfold addz
  rw [Int.add_comm, Int.mul_comm a.2]
theorem mul_comm' (a b : Int × Int) : mulz a b = mulz b a := by
  unfold mulz
  rw [Int.mul_comm a.1, Int.mul_comm a.2]
theorem add_assoc' {a b c : Int × Int} (ha : Red a) (hb : Red b) (hc : Red c) : addz (addz a b) c = addz a (addz b c) := by
  have x := add_cross ha hb
  have y := add_cross hb hc
  have na := mne ha hb
  have nc := mne hb hc
  have rab := add_red ha hb
  have rbc := add_red hb hc
  refine nrm_eq (mne rab hc) (mne ha rbc) ?_
  refine cancel (k := (a.2 * b.2) * (b.2 * c.2)) (Int.mul_ne_zero na nc) ?_
  generalize addz a b = u at *
  generalize addz b c = v at *
  clear na nc rab rbc ha hb hc
  grind
theorem mul_assoc' {a b c : Int × Int} (ha : Red a) (hb : Red b) (hc : Red c) : mulz (mulz a b) c = mulz a (mulz b c) := by
  have x := mul_cross ha hb
  have y := mul_cross hb hc
  have na := mne ha hb
  have nc := mne hb hc
  have rab := mul_red ha hb
  have rbc := mul_red hb hc
  refine nrm_eq (mne rab hc) (mne ha rbc) ?_
  refine cancel (k := (a.2 * b.2) * (b.2 * c.2)) (Int.mul_ne_zero na nc) ?_
  generalize mulz a b = u at *
  generalize mulz b c = v at *
  clear na nc rab rbc ha hb hc
  grind
theorem mul_add' {a b c : Int × Int} (ha : Red a) (hb : Red b) (hc : Red c) : mulz (addz a b) c = addz (mulz a c) (mulz b c) := by
  have x := add_cross ha hb
  have y := mul_cross ha hc
  have z := mul_cross hb hc
  have n1 := mne ha hb
  have n2 := mne ha hc
  have n3 := mne hb hc
  refine nrm_eq (mne (add_red ha hb) hc) (mne (mul_red ha hc) (mul_red hb hc)) ?_
  refine cancel (k := (a.2 * b.2) * ((a.2 * c.2) * (b.2 * c.2))) (Int.mul_ne_zero n1 (Int.mul_ne_zero n2 n3)) ?_
  generalize addz a b = u at *
  generalize mulz a c = v at *
  generalize mulz b c = w at *
  clear n1 n2 n3 ha hb hc
  grind
theorem add_sub' {a b : Int × Int} (ha : Red a) (hb : Red b) : addz (addz a b) (negz b) = a := by
  have x := add_cross ha hb
  have n1 := mne ha hb
  refine nrm_is (mne (add_red ha hb) (neg_red hb)) ha ?_
  refine cancel (k := a.2 * b.2) n1 ?_
  show ((addz a b).1 * b.2 + (-b.1) * (addz a b).2) * a.2 * (a.2 * b.2) = a.1 * ((addz a b).2 * b.2) * (a.2 * b.2)
  generalize addz a b = u at *
  clear n1 ha hb
  grind
theorem mul_div' {a b : Int × Int} (ha : Red a) (hb : Red b) (h0 : b.1 ≠ 0) : divz (mulz a b) b = a := by
  have x := mul_cross ha hb
  have n1 := mne ha hb
  have r := mul_red ha hb
  have p := r.pos
  refine nrm_is (Int.mul_ne_zero (by omega) h0) ha ?_
  refine cancel (k := a.2 * b.2) n1 ?_
  generalize mulz a b = u at *
  clear n1 ha hb r p h0
  grind
/-- the sign of a difference -/
def sgn (x : Int) : Int := if x < 0 then -1 else if x > 0 then 1 else 0
theorem sgn_nrm {t m : Int} (h : 0 < m) : sgn (nrm t m).1 = sgn t := by
  have x := nrm_cross (t := t) (m := m) (by omega)
  have r := (nrm_red (t := t) (m := m) (by omega)).pos
  generalize (nrm t m).1 = a at *
  generalize (nrm t m).2 = b at *
  unfold sgn
  rcases Int.lt_trichotomy t 0 with h1 | h1 | h1
  · have z : a < 0 := by
      rcases Int.lt_or_le a 0 with q | q
      · exact q
      · have := Int.mul_nonneg q (Int.le_of_lt h)
        have := Int.mul_neg_of_neg_of_pos h1 r
        omega
    rw [if_pos z, if_pos h1]
  · subst h1
    rw [Int.zero_mul] at x
    have z : a = 0 := by
      rcases Int.mul_eq_zero.mp x with q | q
      · exact q
      · omega
    rw [z]
  · have z : 0 < a := by
      rcases Int.lt_or_le 0 a with q | q
      · exact q
      · have := Int.mul_pos h1 r
        have := Int.mul_nonpos_of_nonpos_of_nonneg q (Int.le_of_lt h)
        omega
    rw [if_neg (by omega), if_pos z, if_neg (by omega), if_pos h1]
def cmpz (a b : Int × Int) : Int := sgn (a.1 * b.2 - b.1 * a.2)
theorem cmp_sub {a b : Int × Int} (ha : Red a) (hb : Red b) : sgn (addz a (negz b)).1 = cmpz a b := by
  have p1 := ha.pos
  have p2 := hb.pos
  unfold cmpz
  have e : a.1 * b.2 - b.1 * a.2 = a.1 * (negz b).2 + (negz b).1 * a.2 := by show a.1 * b.2 - b.1 * a.2 = a.1 * b.2 + (-b.1) * a.2; grind
  rw [e]
  exact sgn_nrm (m := a.2 * (negz b).2) (Int.mul_pos p1 p2)
theorem sgn_neg (x : Int) : sgn x = 0 - sgn (-x) := by
  unfold sgn
  split <;> split <;> (try split) <;> (try split) <;> omega
theorem cmp_neg (a b : Int × Int) : cmpz a b = 0 - cmpz b a := by
  unfold cmpz
  rw [sgn_neg, show -(a.1 * b.2 - b.1 * a.2) = b.1 * a.2 - a.1 * b.2 by grind]
theorem cmp_same (a : Int × Int) : cmpz a a = 0 := by
  unfold cmpz
  rw [Int.sub_self]
  rfl
theorem cmp_up {a : Int × Int} {s : Int} (ha : Red a) (hs : Red (1, s)) : cmpz a (addz a (1, s)) = -1 := by
  have x := add_cross ha hs
  have r := (add_red ha hs).pos
  have p1 := ha.pos
  have p2 : 0 < s := hs.pos
  unfold cmpz
  have x' : (addz a (1, s)).1 * (a.2 * s) = (a.1 * s + 1 * a.2) * (addz a (1, s)).2 := x
  generalize addz a (1, s) = u at *
  have key : (a.1 * u.2 - u.1 * a.2) * s = - (a.2 * u.2) := by
    refine cancel (k := 1) (by decide) ?_
    clear x hs ha
    grind
  have neg : a.1 * u.2 - u.1 * a.2 < 0 := by
    rcases Int.lt_or_le (a.1 * u.2 - u.1 * a.2) 0 with q | q
    · exact q
    · have z1 := Int.mul_nonneg q (Int.le_of_lt p2)
      have z2 := Int.mul_pos p1 r
      omega
  unfold sgn
  rw [if_pos neg]

/-- a number: an int or a ratio -/
def Nv (K : PySem.W.Frag) (H : Hp) (v : V) (z : Int × Int) : Prop := ∃ d, Dp K H v d ∧ numOf d = some z
theorem Nv.same {K : PySem.W.Frag} {H H' : Hp} {v : V} {z : Int × Int} (h : Nv K H v z) (s : Same H H') : Nv K H' v z := by
  obtain ⟨d, hd, e⟩ := h
  exact ⟨d, dp_same s _ _ hd, e⟩
theorem Nv.int {K : PySem.W.Frag} {H : Hp} (i : Int) : Nv K H (.int i) (i, 1) := ⟨.int i, .int i, rfl⟩
theorem numOf_rat {z : Int × Int} (h : Red z) : numOf (rat z.1 z.2) = some z := by
  show (if 1 ≤ z.2 ∧ Int.gcd z.1 z.2 = 1 then some (z.1, z.2) else none) = some z
  have := h.pos
  rw [if_pos ⟨by omega, h.co⟩]
theorem Nv.rat {K : PySem.W.Frag} {H : Hp} {p : Addr} {z : Int × Int} (h : H p = some (.tup [.int z.1, .int z.2])) (r : Red z) : Nv K H (.ref p) z := ⟨_, dp_rat h, numOf_rat r⟩
theorem numOf_red {d : PyData} {z : Int × Int} (h : numOf d = some z) : Red z := by
  have key : ∀ d', ratOf d' = some z → Red z := fun d' h' => by
    have e := ratOf_is h'
    rw [e] at h'
    have h2 : (if 1 ≤ z.2 ∧ Int.gcd z.1 z.2 = 1 then some (z.1, z.2) else none) = some z := h'
    split at h2
    · rename_i w
      exact ⟨by omega, w.2⟩
    · cases h2
  cases d with
  | int i =>
    have e : (i, (1 : Int)) = z := Option.some.inj h
    rw [← e]
    exact ⟨by show (0 : Int) < 1; decide, by show Int.gcd i 1 = 1; exact Int.gcd_one_right i⟩
  | none => exact key .none h
  | bool b => exact key (.bool b) h
  | str b => exact key (.str b) h
  | list b => exact key (.list b) h
  | tuple b => exact key (.tuple b) h
  | dict b => exact key (.dict b) h
theorem Nv.red {K : PySem.W.Frag} {H : Hp} {v : V} {z : Int × Int} (h : Nv K H v z) : Red z := by
  obtain ⟨d, _, e⟩ := h
  exact numOf_red e
theorem dp_rat_inv {K : PySem.W.Frag} {H : Hp} {v : V} {t m : Int} (h : Dp K H v (rat t m)) : ∃ a, v = .ref a ∧ SqT K H a [.int t, .int m] := by
  cases h with
  | tup hs ha =>
    cases ha with
    | cons h1 h2 =>
      cases h2 with
      | cons h2 h3 =>
        cases h3
        cases h1
        cases h2
        exact ⟨_, rfl, hs⟩
def spBin (K : PySem.W.Frag) (f : Int × Int → Int × Int → Int × Int) : Sp := fun vs H Q _ => ∃ (x y : V) (a b : Int × Int) (j k : Nat), vs = [x, y] ∧ Nv K H x a ∧ Nv K H y b ∧ Sz j a ∧ Sz k b ∧ j + k + 1 ≤ 7000 ∧
  ∀ p H', Same H H' → H' p = some (.tup [.int (f a b).1, .int (f a b).2]) → Q (.ref p) H'
def spDiv (K : PySem.W.Frag) (C : Addr) : Sp := fun vs H Q E => ∃ (x y : V) (a b : Int × Int) (j k : Nat), vs = [x, y] ∧ Nv K H x a ∧ Nv K H y b ∧ Sz j a ∧ Sz k b ∧ j + k + 1 ≤ 7000 ∧
  (b.1 ≠ 0 → ∀ p H', Same H H' → H' p = some (.tup [.int (divz a b).1, .int (divz a b).2]) → Q (.ref p) H') ∧ (b.1 = 0 → ∀ H', Same H H' → E (.ref C) none H')
def spSub (K : PySem.W.Frag) : Sp := fun vs H Q _ => ∃ (x y : V) (a b : Int × Int) (j k : Nat), vs = [x, y] ∧ Nv K H x a ∧ Nv K H y b ∧ Sz j a ∧ Sz k b ∧ j + k + 2 ≤ 7000 ∧
  ∀ p H', Same H H' → H' p = some (.tup [.int (addz a (negz b)).1, .int (addz a (negz b)).2]) → Q (.ref p) H'
def spCmp (K : PySem.W.Frag) : Sp := fun vs H Q _ => ∃ (x y : V) (a b : Int × Int) (j k : Nat), vs = [x, y] ∧ Nv K H x a ∧ Nv K H y b ∧ Sz j a ∧ Sz k b ∧ j + k + 2 ≤ 7000 ∧ ∀ H', Same H H' → Q (.int (cmpz a b)) H'
theorem p2pos (k : Nat) (h : 0 < k) {x : Int} (hx : x.natAbs < 2 ^ k) : x.natAbs < 2 ^ k := hx
theorem Sz.pos {k : Nat} {z : Int × Int} (h : Sz k z) (r : Red z) : 0 < k := by
  have p := r.pos
  have q := h.2
  cases k with
  | zero => simp at q; omega
  | succ n => exact Nat.succ_pos _
theorem mulW_of {x y : Int} {j k : Nat} (hx : x.natAbs < 2 ^ j) (hy : y.natAbs < 2 ^ k) (j0 : 0 < j) (k0 : 0 < k) (l : j + k + 1 ≤ 7000) : CMulW x y := wide_mul hx hy j0 k0 (by omega)
theorem to8000 {x : Int} {k : Nat} (h : x.natAbs < 2 ^ k) (l : k ≤ 7999) : x.natAbs < 2 ^ 8000 := Nat.lt_of_lt_of_le h (Nat.pow_le_pow_right (by decide) (by omega))

/-! ### the law's drawn numbers -/
theorem But.new {H H' : Hp} {b g c p : Addr} {n : Nat} {o : HO} (B : Box H b g c n) (np : H p = none) (x : But b g (upd H p o) H') : H' p = some o := by
  obtain ⟨gs, cs, cur, m, B, _⟩ := B
  exact x p o upd_same (fun e => by rw [e, B.hb] at np; cases np) (fun e => by rw [e, B.hg] at np; cases np)
theorem But.after {H H' : Hp} {b g p : Addr} {o : HO} (np : H p = none) (x : But b g (upd H p o) H') : But b g H H' := (But.of (same_new np o)).trans x
theorem at_pick {H : Hp} {p : Addr} {xs : List V} {r k : Int} (_ : H p = some (.lst xs)) (r0 : 0 ≤ r) (r1 : r < k) (hk : (xs.length : Int) = k) : ∃ v, v ∈ xs ∧ atI xs r = some v := at_lt r0 (by omega)
theorem pow8000 (k : Nat) (h : k < 8000) : 2 ^ k < 2 ^ 8000 := Nat.pow_lt_pow_right (by decide) h
theorem pow8000' (j : Int) (k : Nat) (h : k < 8000) (h2 : j.natAbs < 2 ^ k) : j.natAbs < 2 ^ 8000 := Nat.lt_trans h2 (pow8000 k h)
/-- a drawn number: a new tuple in lowest terms -/
def spNumK (sz cost : Nat) : Sp := fun vs H Q _ => ∃ (b g c : Addr) (n : Nat), vs = [.ref b] ∧ Box H b g c n ∧ n + cost < 1000000 ∧
  ∀ (p : Addr) (z : Int × Int) (H' : Hp), Red z → Sz sz z → H' p = some (.tup [.int z.1, .int z.2]) → Box H' b g c (n + cost) → But b g H H' → Q (.ref p) H'
abbrev spNum (cost : Nat) : Sp := spNumK 700 cost
/-- a number as it is passed: the int where the bottom is 1, at times -/
def spGivenD (K : PySem.W.Frag) : Sp := fun vs H Q _ => ∃ (b g c : Addr) (v : V) (n : Nat) (z : Int × Int), vs = [.ref b, v] ∧ Box H b g c n ∧ n + 1 < 1000000 ∧ Dp K (mk b g H) v (rat z.1 z.2) ∧ Red z ∧
  ∀ (u : V) (H' : Hp), Nv K (mk b g H') u z → Box H' b g c (n + 1) → But b g H H' → Q u H'
def spGiven (K : PySem.W.Frag) : Sp := fun vs H Q _ => ∃ (b g c p : Addr) (n : Nat) (z : Int × Int), vs = [.ref b, .ref p] ∧ Box H b g c n ∧ n + 1 < 1000000 ∧ H p = some (.tup [.int z.1, .int z.2]) ∧ Red z ∧
  ∀ (v : V) (H' : Hp), Nv K (mk b g H') v z → Box H' b g c (n + 1) → But b g H H' → Q v H'
theorem red_one (t : Int) : Red (t, 1) := ⟨by show (0 : Int) < 1; decide, Int.gcd_one_right t⟩
theorem sz_of {z : Int × Int} {k : Nat} (h : Sz k z) (l : k ≤ 700) : Sz 700 z := h.mono l
section
variable {P : Program} {w : World} {K : PySem.W.Frag} {mg : Str → Option Value} {base : Heap}
theorem ok_number40 (GT : Kn P w K mg base CX0 "_law_take" 2 ["_law_box_here", "_law_size"] spTake) (GR : Kn P w K mg base CX0 "_law_ratio" 2 ["_law_top", "_law_bottom"] spLRatio) (D : Df K mg "_law_number" s_l_number ["_law_box_here"]) :
    Kn P w K mg base CX0 "_law_number" 3 ["_law_box_here"] (spNumK 40 6) := by
  obtain ⟨f, fd, F, hm, hb⟩ := D
  obtain ⟨f_l_take, fd_l_take, G_l_take, m_l_take, k_l_take, b_l_take⟩ := GT
  obtain ⟨f_l_ratio, fd_l_ratio, G_l_ratio, m_l_ratio, k_l_ratio, b_l_ratio⟩ := GR
  refine ⟨f, fd, F.ok sc_l_number (fun vs H Q E h => ?_) (fun cdv A outer s H vs Q E hr h => ?_), hm, F.kp, hb⟩
  · obtain ⟨b, g, c, n, rfl, _⟩ := h
    rfl
  · obtain ⟨b, g, c, n, rfl, B, hn, q⟩ := h
    refine ⟨_, (pss_cons (ps_set (i := 1) sc_l_number.nd rfl (Or.inl rfl) (pe_call G_l_take (hr.mono (by omega)) rfl m_l_take k_l_take b_l_take .nil pass0 (pa_cons (pv 0) (pa_cons pe_int pa_nil))))
      (pss_cons (ps_if (pt_cmpR op_lt (pv 1) pe_int (nomark _)) (pss_one (ps_ret (pe_tup (pa_cons (pe_op op_sub (pe_call G_l_take (hr.mono (by omega)) rfl m_l_take k_l_take b_l_take .nil pass0 (pa_cons (pv 0) (pa_cons pe_int pa_nil))) pe_int) (pa_cons pe_int pa_nil))))) pss_nil)
      (pss_cons (ps_if (pt_cmpR op_lt (pv 1) pe_int (nomark _)) (pss_one (ps_ret (pe_call G_l_ratio (hr.mono (by omega)) rfl m_l_ratio k_l_ratio b_l_ratio .nil pass0 (pa_cons (pe_op op_sub (pe_call G_l_take (hr.mono (by omega)) rfl m_l_take k_l_take b_l_take .nil pass0 (pa_cons (pv 0) (pa_cons pe_int pa_nil))) pe_int) (pa_cons (pe_op op_add pe_int (pe_call G_l_take (hr.mono (by omega)) rfl m_l_take k_l_take b_l_take .nil pass0 (pa_cons (pv 0) (pa_cons pe_int pa_nil)))) pa_nil))))) pss_nil)
      (pss_cons (ps_set (i := 2) sc_l_number.nd rfl (Or.inl rfl) (pe_op op_mul (pe_call G_l_take (hr.mono (by omega)) rfl m_l_take k_l_take b_l_take .nil pass0 (pa_cons (pv 0) (pa_cons (pe_op op_powB pe_int pe_int) pa_nil))) (pe_ix ix_list (pe_lst (pa_cons pe_int (pa_cons (pe_un un_neg pe_int) pa_nil))) (pe_call G_l_take (hr.mono (by omega)) rfl m_l_take k_l_take b_l_take .nil pass0 (pa_cons (pv 0) (pa_cons pe_int pa_nil))) (fun _ _ => rfl))))
      (pss_one (ps_ret (pe_call G_l_ratio (hr.mono (by omega)) rfl m_l_ratio k_l_ratio b_l_ratio .nil pass0 (pa_cons (pv 2) (pa_cons (pe_ix ix_list (pe_lst (pa_cons pe_int (pa_cons (pe_op op_add pe_int (pe_call G_l_take (hr.mono (by omega)) rfl m_l_take k_l_take b_l_take .nil pass0 (pa_cons (pv 0) (pa_cons (pe_op op_sub (pe_op op_powB pe_int pe_int) pe_int) pa_nil)))) pa_nil))) (pe_call G_l_take (hr.mono (by omega)) rfl m_l_take k_l_take b_l_take .nil pass0 (pa_cons (pv 0) (pa_cons pe_int pa_nil))) (fun _ _ => rfl)) pa_nil))))))))), ?_⟩
    refine ⟨_, rfl, b, g, c, n, 10, rfl, B, by omega, by decide, pow8000' 10 4 (by decide) (by decide), fun way H1 w0 w1 B1 b1 => ?_⟩
    refine ⟨_, rfl, _, _, rfl, rfl, _, rfl, ?_⟩
    refine ite2 (fun _ => ?_) (fun _ => ?_)
    · refine ⟨_, rfl, b, g, c, _, 21, rfl, B1, by omega, by decide, pow8000' 21 5 (by decide) (by decide), fun x H2 x0 x1 B2 b2 => ?_⟩
      refine ⟨_, _, rfl, rfl, (by show 2 ≤ sizeLine; decide), fun p np => ?_⟩
      exact q p (x - 10, 1) _ (red_one _) (Sz.mono (j := 5) (k := 40) ⟨by show (x - 10).natAbs < 32; omega, by show (1 : Int).natAbs < 32; decide⟩ (by decide)) upd_same ((B2.same (same_new np _)).mono (by omega)) ((b1.trans b2).trans (But.of (same_new np _)))
    refine ⟨_, rfl, _, _, rfl, rfl, _, rfl, ?_⟩
    refine ite2 (fun _ => ?_) (fun _ => ?_)
    · refine ⟨_, rfl, b, g, c, _, 61, rfl, B1, by omega, by decide, pow8000' 61 6 (by decide) (by decide), fun x H2 x0 x1 B2 b2 => ?_⟩
      refine ⟨_, _, rfl, rfl, _, rfl, b, g, c, _, 12, rfl, B2, by omega, by decide, pow8000' 12 4 (by decide) (by decide), fun y H3 y0 y1 B3 b3 => ?_⟩
      refine ⟨_, _, rfl, rfl, x - 30, 1 + y, rfl, by omega, pow8000' (1 + y) 4 (by decide) (by show (1 + y).natAbs < 16; omega), fun p H4 s4 h4 => ?_⟩
      exact q p (nrm (x - 30) (1 + y)) _ (nrm_red (by omega)) (Sz.mono (j := 6) (k := 40) (sz_nrm (by show (x - 30).natAbs < 64; omega) (by show (1 + y).natAbs < 64; omega)) (by decide)) h4 ((B3.same s4).mono (by omega)) (((b1.trans b2).trans b3).trans (But.of s4))
    refine ⟨_, rfl, _, _, rfl, rfl, ⟨by decide, by decide +kernel⟩, b, g, c, _, _, rfl, B1, by omega, (by show (0 : Int) < 10 ^ 12; decide), pow8000' (10 ^ 12) 40 (by decide) (by decide), fun x H2 x0 x1 B2 b2 => ?_⟩
    have x2 : x < 10 ^ 12 := x1
    refine ⟨_, rfl, ?_⟩
    refine ⟨(by show 2 ≤ sizeLine; decide), fun p3 np3 => ⟨_, rfl, b, g, c, _, 2, rfl, B2.same (same_new np3 _), (by omega), (by decide), (by decide), fun r3 H3 r03 r13 B3 bt3 => ?_⟩⟩
    have hp3 := But.new B2 np3 bt3
    have bu3 := But.after np3 bt3
    obtain ⟨v3, hv3, hat3⟩ := at_pick hp3 r03 r13 rfl
    refine ⟨p3, _, r3, v3, rfl, rfl, SqL.of hp3, hat3, ?_⟩
    have hw : ∃ y : Int, v3 = .int y ∧ (y = 1 ∨ y = -1) := by
      simp only [List.mem_cons, List.not_mem_nil, or_false] at hv3
      rcases hv3 with e | e
      · exact ⟨_, e, .inl rfl⟩
      · exact ⟨_, e, .inr rfl⟩
    obtain ⟨y, rfl, hy⟩ := hw
    refine ⟨_, _, rfl, rfl, .inr ⟨by omega, by omega⟩, ?_⟩
    have hxy : (x * y).natAbs < 2 ^ 40 := by
      rcases hy with rfl | rfl
      · rw [Int.mul_one]
        omega
      · rw [Int.mul_neg, Int.mul_one]
        omega
    refine ⟨_, rfl, _, rfl, _, _, rfl, rfl, ⟨by decide, by decide +kernel⟩, _, _, rfl, rfl, b, g, c, _, _, rfl, B3, by omega, (by show (0 : Int) < 10 ^ 12 - 1; decide), pow8000' (10 ^ 12 - 1) 40 (by decide) (by decide), fun u H4 u0 u1 B4 b4 => ?_⟩
    have u2 : u < 10 ^ 12 - 1 := u1
    refine ⟨_, _, rfl, rfl, ?_⟩
    refine ⟨(by show 2 ≤ sizeLine; decide), fun p5 np5 => ⟨_, rfl, b, g, c, _, 2, rfl, B4.same (same_new np5 _), (by omega), (by decide), (by decide), fun r5 H5 r05 r15 B5 bt5 => ?_⟩⟩
    have hp5 := But.new B4 np5 bt5
    have bu5 := But.after np5 bt5
    obtain ⟨v5, hv5, hat5⟩ := at_pick hp5 r05 r15 rfl
    refine ⟨p5, _, r5, v5, rfl, rfl, SqL.of hp5, hat5, ?_⟩
    have hm : ∃ y : Int, v5 = .int y ∧ 0 < y ∧ y.natAbs < 2 ^ 40 := by
      simp only [List.mem_cons, List.not_mem_nil, or_false] at hv5
      rcases hv5 with e | e
      · exact ⟨_, e, by decide, by decide⟩
      · exact ⟨_, e, by show (0 : Int) < 1 + u; omega, by show (1 + u).natAbs < 2 ^ 40; omega⟩
    obtain ⟨m, rfl, m0, mB⟩ := hm
    refine ⟨x * y, m, rfl, by omega, pow8000' m 40 (by decide) mB, fun p H6 s6 h6 => ?_⟩
    exact q p (nrm (x * y) m) _ (nrm_red (by omega)) (Sz.mono (j := 40) (k := 40) (sz_nrm hxy mB) (by decide)) h6 ((B5.same s6).mono (by omega)) (((((b1.trans b2).trans bu3).trans b4).trans bu5).trans (But.of s6))
theorem ok_number (GT : Kn P w K mg base CX0 "_law_take" 2 ["_law_box_here", "_law_size"] spTake) (GR : Kn P w K mg base CX0 "_law_ratio" 2 ["_law_top", "_law_bottom"] spLRatio) (D : Df K mg "_law_number" s_l_number ["_law_box_here"]) :
    Kn P w K mg base CX0 "_law_number" 3 ["_law_box_here"] (spNum 6) := by
  obtain ⟨f, fd, F, a, b, c⟩ := ok_number40 GT GR D
  refine ⟨f, fd, F.imp fun vs H Q E h => ?_, a, b, c⟩
  obtain ⟨b, g, c, n, rfl, B, hn, q⟩ := h
  exact ⟨b, g, c, n, rfl, B, hn, fun p z H' r z40 hp B' b' => q p z H' r (z40.mono (by decide)) hp B' b'⟩
theorem ok_givenD (GT : Kn P w K mg base CX0 "_law_take" 2 ["_law_box_here", "_law_size"] spTake) (D : Df K mg "_law_given" s_l_given ["_law_box_here", "_law_number_here"]) :
    Kn P w K mg base CX0 "_law_given" 3 ["_law_box_here", "_law_number_here"] (spGivenD K) := by
  obtain ⟨f, fd, F, hm, hb⟩ := D
  obtain ⟨f_l_take, fd_l_take, G_l_take, m_l_take, k_l_take, b_l_take⟩ := GT
  refine ⟨f, fd, F.ok sc_l_given (fun vs H Q E h => ?_) (fun cdv A outer s H vs Q E hr h => ?_), hm, F.kp, hb⟩
  · obtain ⟨b, g, c, p, n, z, rfl, _⟩ := h
    rfl
  · obtain ⟨b, g, c, v, n, z, rfl, B, hn, hp, rz, q⟩ := h
    refine ⟨_, (pss_cons (ps_if (PW.pt (pw_and (pt_cmpR op_eq (pe_ix ix_tup (pv 1) pe_int (fun _ _ => rfl)) pe_int (nomark _)) (pw_and1 (pt_cmpR op_eq (pe_call G_l_take (hr.mono (by omega)) rfl m_l_take k_l_take b_l_take .nil pass0 (pa_cons (pv 0) (pa_cons pe_int pa_nil))) pe_int (nomark _))))) (pss_one (ps_ret (pe_ix ix_tup (pv 1) pe_int (fun _ _ => rfl)))) pss_nil)
      (pss_one (ps_ret (pv 1)))), ?_⟩
    obtain ⟨p, rfl, hpM⟩ := dp_rat_inv hp
    have hp0 := same_seqT (mk_sub b g H) hpM
    refine ⟨_, rfl, p, _, _, .int z.2, rfl, rfl, hp0, rfl, rfl, _, rfl, ?_⟩
    refine ite2 (fun h1 => ?_) (fun _ => ?_)
    · have e : z.2 = 1 := by
        have y := of_decide_eq_true h1
        injection y
      refine ⟨_, rfl, b, g, c, n, 2, rfl, B, by omega, by decide, pow8000' 2 2 (by decide) (by decide), fun x H1 x0 x1 B1 b1 => ?_⟩
      have hp1 := dp_same (mk_but b1) _ _ hp
      refine ⟨rfl, _, rfl, ?_⟩
      refine ite2 (fun _ => ?_) (fun _ => ?_)
      · refine ⟨_, rfl, p, _, _, .int z.1, rfl, rfl, same_seqT (mk_sub b g H1) (same_seqT (mk_but b1) hpM), rfl, ?_⟩
        refine q _ _ ?_ B1 b1
        have : (z.1, (1 : Int)) = z := Prod.ext rfl e.symm
        rw [← this]
        exact Nv.int _
      · refine ⟨_, rfl, ?_⟩
        exact q _ _ ⟨_, hp1, numOf_rat rz⟩ B1 b1
    · refine ⟨_, rfl, ?_⟩
      exact q _ _ ⟨_, hp, numOf_rat rz⟩ (B.mono (by omega)) (But.refl _ _ _)
theorem ok_given (GT : Kn P w K mg base CX0 "_law_take" 2 ["_law_box_here", "_law_size"] spTake) (D : Df K mg "_law_given" s_l_given ["_law_box_here", "_law_number_here"]) :
    Kn P w K mg base CX0 "_law_given" 3 ["_law_box_here", "_law_number_here"] (spGiven K) := by
  obtain ⟨f, fd, F, a, b, c⟩ := ok_givenD GT D
  refine ⟨f, fd, F.imp fun vs H Q E h => ?_, a, b, c⟩
  obtain ⟨b, g, c, p, n, z, rfl, B, hn, hp, rz, q⟩ := h
  exact ⟨b, g, c, .ref p, n, z, rfl, B, hn, dp_rat (mk_tup B hp), rz, q⟩
end

/-- a text as a list of signs -/
abbrev tx (l : List Nat) : V := .str (SX.S l)
theorem asciiS (l : List Nat) : Txt.isascii (SX.S l) = l.all (· < 128) := by
  unfold Txt.isascii
  simp [SX.S]
theorem alphaS (l : List Nat) : Txt.isalpha (SX.S l) = (decide (0 < l.length) && l.all Unicode.isAlpha) := by
  unfold Txt.isalpha
  simp [SX.S, Str.length]
theorem lowerS (l : List Nat) : Txt.islower (SX.S l) = (l.any Unicode.isLower && !l.any fun c => Unicode.isUpper c || Unicode.isTitle c) := by
  unfold Txt.islower
  simp [SX.S]

/-! ### promises of defs while no text of a list is under way -/
structure FnG (P : Program) (w : World) (K : PySem.W.Frag) (mg : Str → Option Value) (base : Heap) (cx : CXT) (k : Nat) (f : Addr) (fd : FuncData) (ps : List Str) (sp : Sp) : Prop where
  many : ∀ vs H Q E, sp vs H Q E → vs.length = ps.length
  goes : ∀ (A : Around) (o : List Env) (s : Shared) (H : Hp) (as : Args) (us : List Value) (vs : List V) (Q : VK) (E : XK), Room k A → A.guards = some [] →
    Env0 P w K mg base A o s H → BindsTo s fd as (ps.zip us) → Vals vs us → sp vs H Q E → codeAny (model P w) A (.call (.ref f) as) (CR cx o P w H s Q E) s
theorem FnOk.free {P : Program} {w : World} {K : PySem.W.Frag} {mg : Str → Option Value} {base : Heap} {cx : CXT} {k : Nat} {f : Addr} {fd : FuncData} {ps : List Str} {sp : Sp} (F : FnOk P w K mg base cx k f fd ps sp) : FnG P w K mg base cx k f fd ps sp :=
  ⟨F.len, fun A o s H as us vs Q E hr _ => F.run A o s H as us vs Q E hr⟩
def KnG (P : Program) (w : World) (K : PySem.W.Frag) (mg : Str → Option Value) (base : Heap) (cx : CXT) (x : Str) (k : Nat) (ps : List Str) (sp : Sp) : Prop :=
  ∃ f fd, FnG P w K mg base cx k f fd ps sp ∧ mg x = some (.ref f) ∧ PySem.W.keepIn K (.ref f) = true ∧ Binds K fd ps []
section
open PyProof.Rows
/-- a def by its body, the frame's guards known -/
theorem okG {P : Program} {w : World} {K : PySem.W.Frag} {mg : Str → Option Value} {base : Heap} {x qual : Str} {st : Stmt} {f : Addr} {fd : FuncData} {N ps : List Str} {k : Nat} {sp : Sp} (F : Fun K x qual st f fd) (S : FnScope N ps (defScope st))
    (many : ∀ vs H Q E, sp vs H Q E → vs.length = ps.length)
    (body : ∀ (cdv : Value) (A : Around) (o : List Env) (s : Shared) (H : Hp) (vs : List V) (Q : VK) (E : XK), Room k (A.deeper (envOfC qual (defScope st) s.heap.objs.size f cdv)) → A.guards = some [] → sp vs H Q E →
      ∃ t, PSs (cxOf CX0 P w K mg base N qual (defScope st) f cdv A o s H E).nox (defBody st) t ∧ t { nx := fun _ H' => Q .non H', rt := Q } (start N vs) H) : FnG P w K mg base CX0 (k + 1) f fd ps sp := by
  obtain ⟨oc, od, kV, doc, pm, an, cdv, ct, osl, rfl, lk, hcd⟩ := F.ex
  refine ⟨many, fun A o s H as us vs Q E hr hg e0 hb rv hsp => ?_⟩
  have nl := many _ _ _ _ hsp
  have old : ∀ b ob, base.get? b = some ob → s.heap.get? b = some ob := fun b ob e => (e0.bs b ob e).1
  have kx : K.In s.heap := e0.mod.kin.keeps old
  refine codeAny_call_function hr.depth (kx _ _ lk) rfl S.co S.gen rfl (PySem.W.codeRec_of kx hcd) (hb _ _ _ _ (wpAny_newFunctionEnv_cells S.kind (fun ⟨n, v⟩ hy => (S.par n (List.of_mem_zip hy).1).imp id fun q => ⟨q, PySem.W.cellsFrom_some _ _ _ (.inl q)⟩) fun env he s1 xc => ?_))
  cases he
  refine ⟨(e0.mod.nolimit.keeps old).keeps xc.toInCall.keep, codeAny_func ?_⟩
  obtain ⟨t, ht, hq⟩ := body cdv A o s H vs Q E (hr.deeper _) hg hsp
  refine wpAny_mono (ht.nox.run [] s1 (start N vs) H _ (inv_start S hr.hd e0 nl rv xc) hq) (fun fl s' hs => ?_) fun e s' hs => hs
  match fl, hs with
  | .ret u, ⟨v, _, H', J, r2, q⟩ => exact ⟨v, H', J.os, J.bare, J.base, J.hok, r2, q⟩
  | .next, ⟨_, H', J, q⟩ => exact ⟨.non, H', J.os, J.bare, J.base, J.hok, rfl, q⟩
  | .brk, ⟨_, _, _, q⟩ => exact q.elim
  | .cont, ⟨_, _, _, q⟩ => exact q.elim
/-- a call of such a def -/
theorem pe_callG {X : Cx} {cx : CXT} {k : Nat} {f : Addr} {fd : FuncData} {ps : List Str} {sp : Sp} {E : XK} {x : Str} {p pos : Pos} {e : Expr} {es : List Expr} {t : TA} (F : FnG X.prog X.w X.K X.mg X.base cx k f fd ps sp) (hr : Room k X.A) (hg : X.A.guards = some []) (gl : Gl X x)
    (hm : X.mg x = some (.ref f)) (hk : PySem.W.keepIn X.K (.ref f) = true) (hb : Binds X.K fd ps []) (hx : Passes cx X E) (ha : PA X (e :: es) t) (hdb : (x == ("__debug__" : Str)) = false := by decide)
    (he : starEach (e :: es) X.env = (false, eval e X.env) :: starEach es X.env := by rfl) (hpl : (backTo pos (starEach es X.env)).any (·.1) = false := by rfl) : PE X (.Call (.Name x p) (e :: es) [] pos) (tCall sp [] E t) := by
  refine ⟨fun pins s σ H Q I h => wpAny_Call_Name_kw (ld_glob I gl hm (PySem.W.callWith_K (h₀ := X.base) I.ok.mod.kin hk (thn (ha.run pos pins s σ H _ I h) fun us s1 ⟨vs, H1, I1, r, q⟩ => ⟨I1.kIn, ?_⟩) he hpl) hdb)⟩
  have q : sp (vs ++ []) H1 Q E := q
  rw [List.append_nil] at q
  have nl : us.length = ps.length := by rw [← r.length]; exact F.many _ _ _ _ q
  have hb1 := hb s1 us I1.kIn (by rw [List.append_nil]; exact nl)
  rw [List.append_nil] at hb1
  refine wpAny_call (codeAny_mono (F.goes X.A X.stack s1 H1 ⟨us, []⟩ us vs Q E hr hg I1.env0 hb1 r q) fun re s' hq => ?_)
  match re, hq with
  | .error e, hq => exact hx pins σ H1 s1 e s' I1 hq
  | .ok (.ret _), hq => exact I1.after hq
  | .ok .next, hq => exact False.elim hq
  | .ok .brk, hq => exact False.elim hq
  | .ok .cont, hq => exact False.elim hq
/-- str() of a list or a tuple of data -/
def rStrD (K : PySem.W.Frag) : List V → Hp → VK → Prop := fun xs H Q => ∃ a d, xs = [.ref a] ∧ Dp K H (.ref a) d ∧ PyData.showable d = true ∧ PyData.hasDict d = false ∧ d.depth ≤ 40 ∧ (PyData.shown d).length ≤ sizeLine ∧ Q (.str (PyData.shown d)) H
theorem call_strD {X : Cx} {K : PySem.W.Frag} (e : X.K = K) (hg : X.A.guards = some []) (hu : X.A.units + 64 < cLine) : CallR X (.type "str") (rStrD K) := by
  subst e
  intro pins s σ H xs us Q I r h
  obtain ⟨a, d, rfl, hd, h1, h2, h3, h4, q⟩ := h
  obtain ⟨u, rfl, ru⟩ := vals1 r
  cases ru
  obtain ⟨as, rd⟩ := Dp.reads I d _ _ hd rfl
  exact PySem.str_of_reads rd h1 (PySem.PyData.noDict_hsm h2) hg (by omega) (fun _ _ h => h) (fun h' t tk hk => ⟨.str _, H, I.kept (t' := tk) hk, ⟨t, rfl⟩, q⟩) h4
end
section
open PyProof.Rows
/-- the law's call at the top -/
theorem top_callG {P : Program} {w : World} {K : PySem.W.Frag} {mg mb : Str → Option Value} {k : Nat} {fa a : Addr} {fd : FuncData} {x : Str} {sp : Sp} {z : Shared} {vs : List Value} {ns : List Int} (kx : K.In z.heap) (hm : z.heap.Ns mainGlobals mg) (hb : z.heap.Ns builtinsNs mb)
    (bb : ∀ x : Str, x ≠ "__name__" → mb x = bootBuiltins x) (nl : z.heap.NoLimit) (gn : z.gens = #[]) (ha : z.heap.get? a = some { cls := .type "list", data := .seq vs.toArray }) (hi : IntsAre vs ns) (hl : ns.length ≤ sizeLine) (hr : Room k callerA)
    (F : ∀ base : Heap, K.In base → base.Ns mainGlobals mg → FnG P w K mg base CX0 k fa fd [x] sp) (bd : ∀ (s : Shared) (u : Value), BindsTo s fd ⟨[u], []⟩ [(x, u)])
    (hsp : ∀ H : Hp, Only H → SqL K H a (ns.map V.int) → sp [.ref a] H (fun v _ => v = .bl true) fun _ _ _ => False) :
    codeAny (model P w) callerA (.call (.ref fa) ⟨[.ref a], []⟩) (fun r s' => r = .ok (.ret (.bool true)) ∧ OldK z.heap s'.heap ∧ s'.os = z.os ∧ AllBare s'.gens) z := by
  have lv := hi.length
  -- H tracks the script or nothing; it is hidden in the base
  have main : ∀ H : Hp, Only H → SqL K H a (ns.map V.int) → HOk P w H z.heap → (∀ b u, H b = some u → b = a ∧ K.lookup a = none) →
      codeAny (model P w) callerA (.call (.ref fa) ⟨[.ref a], []⟩) (fun r s' => r = .ok (.ret (.bool true)) ∧ OldK z.heap s'.heap ∧ s'.os = z.os ∧ AllBare s'.gens) z := by
    intro H only hS hok hA
    have clean : ∀ b, (∀ u, H b = some u → False) → H b = none := fun b h => by
      cases q : H b with
      | none => rfl
      | some u => exact (h u q).elim
    have ns2 : ∀ {b : Addr} {m : Str → Option Value}, z.heap.Ns b m → (hidT z.heap H).Ns b m := fun {b m} ⟨o, es, ep, e, d, r⟩ => ⟨o, es, ep, hidT_get e (clean b fun u q => by
      have eb := (hA b u q).1
      rw [eb, ha] at e
      cases e
      cases d), d, r⟩
    have kb : K.In (hidT z.heap H) := fun b o e => hidT_get (kx b o e) (clean b fun u q => by
      have y := hA b u q
      rw [y.1, y.2] at e
      cases e)
    obtain ⟨mc, n1, n2⟩ := nl
    have e0 : Env0 P w K mg (hidT z.heap H) callerA [] z H := ⟨rfl, ⟨kb, ns2 hm, ⟨mb, ns2 hb, bb⟩, mc, ns2 n1, n2⟩, fun b o e => of_hidT e, Nat.le_of_eq (hidT_size _ _), trivial, fun b h => (by cases h), hok, .of_eq gn⟩
    refine codeAny_mono ((F _ kb (ns2 hm)).goes callerA [] z H ⟨[.ref a], []⟩ [.ref a] [.ref a] _ _ hr rfl e0 (bd z (.ref a)) (.cons rfl .nil) (hsp H only hS)) fun re s' h => ?_
    match re, h with
    | .error e, h => exact h.elim
    | .ok .next, h => exact False.elim h
    | .ok .brk, h => exact False.elim h
    | .ok .cont, h => exact False.elim h
    | .ok (.ret u), ⟨v, H', os, bare, un, hok', rv, q⟩ =>
      cases (show v = V.bl true from q)
      cases (show u = Value.bool true from rv)
      refine ⟨rfl, OldK.of_keep fun b o e => ?_, os, bare⟩
      cases q2 : H b with
      | none => exact un.keep b o e q2 (fun y => by cases y) (fun y => by cases y)
      | some u =>
        rcases only b with y | ⟨ob, xs, y⟩
        · rw [q2] at y
          cases y
        · obtain ⟨e1, _⟩ := hok b _ y
          obtain ⟨e2, _⟩ := hok' b _ (un.frzs b ob _ y)
          rw [e] at e1
          cases e1
          exact e2
  have rv := vals_ints hi
  cases hk : K.lookup a with
  | some o =>
    have e := kx a o hk
    rw [ha] at e
    cases e
    exact main (fun _ => none) (fun _ => .inl rfl) (.inr ⟨_, vs.toArray, _, hk, rfl, rfl, rfl, by rw [List.size_toArray, lv]; exact hl, by simpa using rv⟩) (fun b u y => by cases y) (fun b u y => by cases y)
  | none =>
    have at_ : ∀ b u, (if b = a then some (HO.frz { cls := .type "list", data := .seq vs.toArray } (.lst (ns.map V.int))) else none) = some u → b = a ∧ u = .frz { cls := .type "list", data := .seq vs.toArray } (.lst (ns.map V.int)) := fun b u y => by
      split at y
      · rename_i h
        exact ⟨h, (Option.some.inj y).symm⟩
      · cases y
    refine main (fun b => if b = a then some (.frz { cls := .type "list", data := .seq vs.toArray } (.lst (ns.map V.int))) else none) (fun b => ?_) (.inl (.inr ⟨{ cls := .type "list", data := .seq vs.toArray }, if_pos rfl⟩)) (fun b u y => ?_) fun b u y => ⟨(at_ b u y).1, hk⟩
    · by_cases hb : b = a
      · exact .inr ⟨_, _, if_pos hb⟩
      · exact .inl (if_neg hb)
    · obtain ⟨rfl, rfl⟩ := at_ b u y
      exact ⟨ha, by rw [List.length_map]; exact hl, vs, _, rv, ha⟩
end

/-! ### tuples that have no dict of their own; dict() of such a tuple of pairs -/
section
open PyProof.Rows
def NdT (H : Hp) (a : Addr) (xs : List V) : Prop := ∃ o : Obj, H a = some (.frz o (.tup xs)) ∧ o.dict = none
theorem NdT.sq {K : PySem.W.Frag} {H : Hp} {a : Addr} {xs : List V} (h : NdT H a xs) : SqT K H a xs := by
  obtain ⟨o, h, _⟩ := h
  exact .inl (.inr ⟨o, h⟩)
theorem NdT.same {H H' : Hp} {a : Addr} {xs : List V} (h : NdT H a xs) (s : Same H H') : NdT H' a xs := by
  obtain ⟨o, h, d⟩ := h
  exact ⟨o, s _ _ h, d⟩
def tTupF (t : TA) : TE := fun σ H Q => t σ H fun xs H1 => xs.length ≤ sizeLine ∧ ∀ p o, H1 p = none → o.dict = none → Q (.ref p) (upd H1 p (.frz o (.tup xs)))
theorem pe_tupF {X : Cx} {es : List Expr} {t : TA} {k : Nat} {pos : Pos} (h : PA X es t) : PE X (.Tuple es k pos) (tTupF t) := by
  refine ⟨fun pins s σ H Q I hq => ?_⟩
  refine wpAny_Tuple_spliced (thn (h.run pos pins s σ H _ I hq) fun us s1 ⟨xs, H1, I1, r, z, q⟩ => ⟨by rw [← r.length]; exact z, ?_⟩)
  exact ⟨.ref s1.heap.objs.size, _, I1.laid (t' := s1.toks) (o := .frz { cls := .type "tuple", data := .seq us.toArray } (.tup xs)) (fun b u e => Heap.get?_push_of_some _ e) (Nat.le_refl _) ⟨Heap.get?_push_size _ rfl, z, us, r, ⟨_, Heap.get?_push_size _ rfl, rfl, _, rfl⟩⟩, rfl,
    q _ _ (I1.hok.fresh (Nat.le_refl _)) rfl⟩
def rTupF (K : PySem.W.Frag) : List V → Hp → VK → Prop := fun xs H Q => ∃ p ys, xs = [.ref p] ∧ SqL K H p ys ∧ ∀ l o, H l = none → o.dict = none → Q (.ref l) (upd H l (.frz o (.tup ys)))
theorem call_tupF {X : Cx} {K : PySem.W.Frag} (e : X.K = K) : CallR X (.type "tuple") (rTupF K) := by
  subst e
  intro pins s σ H xs us Q I r h
  obtain ⟨p, ys, rfl, hq, q⟩ := h
  obtain ⟨u, rfl, rx⟩ := vals1 r
  cases rx
  obtain ⟨its, r2, pl, hz⟩ := I.list hq
  have nl := r2.length
  refine call_tuple_list pl.isList (fun h' kp => ?_) (by simp only [List.size_toArray] <;> omega)
  have J : Inv X pins σ H { s with heap := h' } := I.kept (t' := s.toks) kp
  exact ⟨.ref h'.objs.size, _, J.laid (t' := s.toks) (o := .frz { cls := .type "tuple", data := .seq its.toArray } (.tup ys)) (fun b o e => Heap.get?_push_of_some _ e) (Nat.le_refl _) ⟨Heap.get?_push_size _ rfl, hz, its, r2, IsTup.new _ _⟩, rfl, q _ _ (J.hok.fresh (Nat.le_refl _)) rfl⟩
theorem two_of {X : Cx} {pins : List (Addr × Obj)} {σ : L2.St} {H : Hp} {s : Shared} (I : Inv X pins σ H s) : ∀ {ps : List Addr} {kvs : List (Key × V)}, Paired (fun p kv => SqT X.K H p [kV kv.1, kv.2]) ps kvs →
    ∃ (prs : List (Key × Value)) (qs : List (Value × Value)), KV kvs prs ∧ prs.length = ps.length ∧ qs.length = ps.length ∧
      ∀ (j : Nat) (k v : Value), qs[j]? = some (k, v) → (∃ b, ps[j]? = some b ∧ IsTup s.heap b #[k, v]) ∧ ∃ key, prs[j]? = some (key, v) ∧ (mixKind X.prog X.w).is key k = true
  | _, _, .nil => ⟨[], [], .nil, rfl, rfl, fun j k v e => by simp at e⟩
  | _, _, .cons (a := p) (b := kv) h t => by
    obtain ⟨prs, qs, r, l1, l2, hp⟩ := two_of I t
    obtain ⟨its, rv, ht, _⟩ := I.tuple h
    obtain ⟨u, y, rfl, ru, ry⟩ := vals2 rv
    refine ⟨(kv.1, y) :: prs, (u, y) :: qs, .cons ⟨rfl, ry⟩ r, by rw [List.length_cons, List.length_cons, l1], by rw [List.length_cons, List.length_cons, l2], fun j k v e => ?_⟩
    cases j with
    | zero =>
      cases Option.some.inj e
      exact ⟨⟨p, rfl, ht⟩, kv.1, rfl, kV_is ru⟩
    | succ j => exact hp j k v e
def rDictT (K : PySem.W.Frag) : List V → Hp → VK → Prop := fun xs H Q => ∃ (a : Addr) (ps : List Addr) (kvs : List (Key × V)), xs = [.ref a] ∧ NdT H a (ps.map V.ref) ∧ Paired (fun p kv => SqT K H p [kV kv.1, kv.2]) ps kvs ∧
  ∀ p, H p = none → Q (.ref p) (upd H p (.dK (mergeK [] kvs)))
theorem call_dictT {X : Cx} {K : PySem.W.Frag} (e : X.K = K) (hc : X.calm = true) : CallR X (.type "dict") (rDictT K) := by
  subst e
  intro pins s σ H xs us Q I r h
  obtain ⟨a, ps, kvs, rfl, ⟨o, hq, hd⟩, hp, q⟩ := h
  obtain ⟨u, rfl, rx⟩ := vals1 r
  cases rx
  obtain ⟨ho, hz, its, rv, o2, ho2, hc2, n, hdat⟩ := I.hok a _ hq
  rw [ho] at ho2
  cases ho2
  have ei := refs_at rv
  subst ei
  rw [List.length_map] at hz
  obtain ⟨prs, qs, rel, l1, l2, hpr⟩ := two_of I hp
  have arg := PairArg.tuple (prog := X.prog) (w := X.w) a (ps.map Value.ref).toArray (fun j => ps.getD j a) qs
  refine PySem.call_dict_pairs (knd := mixKind X.prog X.w) (kvs := prs) arg (I.ok.hd hc) ⟨⟨o, n, ho, hc2, hd, hdat⟩, by rw [List.size_toArray, List.length_map, l2], fun j k v e => ?_⟩ ⟨by rw [l1, l2], fun i key v e => ?_⟩ (by rw [l2]; exact hz) fun h' tk hd' k => ?_
  · obtain ⟨⟨b, hb, ht⟩, _⟩ := hpr j k v e
    refine ⟨by simp [List.getD, hb], ?_⟩
    show PairAt s.heap (ps.getD j a) k v
    rw [show ps.getD j a = b by simp [List.getD, hb]]
    exact .inl ht
  · obtain ⟨_, k2, h1, h2⟩ := hpr i key v e
    exact ⟨k2, h1, h2⟩
  · have hm : (s.heap.objs.size == sysModules) = false := beq_eq_false_iff_ne.mpr (Nat.ne_of_gt I.big)
    have hlen : (mergeK [] kvs).length ≤ sizeLine := by
      refine Nat.le_trans (length_mergeK kvs []) ?_
      rw [List.length_nil, Nat.zero_add, rel.length, l1]
      exact hz
    exact ⟨.ref s.heap.objs.size, _, I.laid (t' := tk) (o := .dK (mergeK [] kvs)) (fun b ob e => k b ob (by simp) e) (Nat.le_refl _) ⟨hlen, hm, merged [] prs, KV.merge rel .nil, hd'⟩, rfl, q _ (I.hok.fresh (Nat.le_refl _))⟩
end


/-! ### sums and products of ratios that are known to be some -/
def spBinR (K : PySem.W.Frag) (f : Int × Int → Int × Int → Int × Int) : Sp := fun vs H Q _ => ∃ (x y : V) (a b : Int × Int) (j k : Nat), vs = [x, y] ∧ Dp K H x (rat a.1 a.2) ∧ Dp K H y (rat b.1 b.2) ∧ Red a ∧ Red b ∧ Sz j a ∧ Sz k b ∧ j + k + 1 ≤ 7000 ∧
  ∀ p H', Same H H' → H' p = some (.tup [.int (f a b).1, .int (f a b).2]) → Q (.ref p) H'
section
variable {P : Program} {w : World} {K : PySem.W.Frag} {mg : Str → Option Value} {base : Heap}
theorem ok_add_ratios {Cz : Addr} (GR : Kn1 P w K mg base (L2.CX P w) "ratio" 1 ["top", "bottom"] (spRatio Cz)) (D : Df K mg "add_ratios" s_add_ratios ["one", "other"]) :
    Kn P w K mg base CX0 "add_ratios" 2 ["one", "other"] (spBinR K addz) := by
  obtain ⟨f, fd, F, hm, hb⟩ := D
  obtain ⟨f_ratio, fd_ratio, G_ratio, m_ratio, k_ratio, b_ratio, _⟩ := GR
  refine ⟨f, fd, F.ok sc_add_ratios (fun vs H Q E h => ?_) (fun cdv A outer s H vs Q E hr h => ?_), hm, F.kp, hb⟩
  · obtain ⟨x, y, a, b, j, k, rfl, _⟩ := h
    rfl
  · obtain ⟨x, y, a, b, j, k, rfl, hx, hy, ra, rb, sa, sb, hjk, q⟩ := h
    have j0 := sa.pos ra
    have k0 := sb.pos rb
    refine ⟨_, (pss_cons (ps_asg (pv 0) (pg_tup (by rfl) (pgs_cons (pg_name (i := 2) sc_add_ratios.nd rfl (Or.inl rfl)) (pgs_cons (pg_name (i := 3) sc_add_ratios.nd rfl (Or.inl rfl)) pgs_nil))))
      (pss_cons (ps_asg (pv 1) (pg_tup (by rfl) (pgs_cons (pg_name (i := 4) sc_add_ratios.nd rfl (Or.inl rfl)) (pgs_cons (pg_name (i := 5) sc_add_ratios.nd rfl (Or.inl rfl)) pgs_nil))))
      (pss_one (ps_ret (pe_call G_ratio (hr.mono (by omega)) rfl m_ratio k_ratio b_ratio .nil passL (pa_cons (pe_op op_add (pe_op op_mulW (pv 2) (pv 5)) (pe_op op_mulW (pv 4) (pv 3))) (pa_cons (pe_op op_mulW (pv 3) (pv 5)) pa_nil))))))), ?_⟩
    obtain ⟨p1, rfl, hp1⟩ := dp_rat_inv hx
    obtain ⟨p2, rfl, hp2⟩ := dp_rat_inv hy
    refine ⟨_, rfl, p1, _, rfl, hp1, rfl, .int _, _, rfl, .int _, _, rfl, rfl, ?_⟩
    refine ⟨_, rfl, p2, _, rfl, hp2, rfl, .int _, _, rfl, .int _, _, rfl, rfl, ?_⟩
    refine ⟨_, rfl, _, rfl, _, _, rfl, rfl, mulW_of sa.1 sb.2 j0 k0 hjk, _, rfl, _, rfl, _, _, rfl, rfl, mulW_of sb.1 sa.2 k0 j0 (by omega), _, _, rfl, rfl, _, rfl, _, rfl, _, _, rfl, rfl, mulW_of sa.2 sb.2 j0 k0 hjk, ?_⟩
    refine ⟨_, _, rfl, fun h => gcd_log h (to8000 (lt_mul sa.2 sb.2) (by omega)), fun _ p H3 s3 h3 => q p H3 s3 h3, fun z => absurd z (mne ra rb)⟩
theorem ok_multiply_ratios {Cz : Addr} (GR : Kn1 P w K mg base (L2.CX P w) "ratio" 1 ["top", "bottom"] (spRatio Cz)) (D : Df K mg "multiply_ratios" s_multiply_ratios ["one", "other"]) :
    Kn P w K mg base CX0 "multiply_ratios" 2 ["one", "other"] (spBinR K mulz) := by
  obtain ⟨f, fd, F, hm, hb⟩ := D
  obtain ⟨f_ratio, fd_ratio, G_ratio, m_ratio, k_ratio, b_ratio, _⟩ := GR
  refine ⟨f, fd, F.ok sc_multiply_ratios (fun vs H Q E h => ?_) (fun cdv A outer s H vs Q E hr h => ?_), hm, F.kp, hb⟩
  · obtain ⟨x, y, a, b, j, k, rfl, _⟩ := h
    rfl
  · obtain ⟨x, y, a, b, j, k, rfl, hx, hy, ra, rb, sa, sb, hjk, q⟩ := h
    have j0 := sa.pos ra
    have k0 := sb.pos rb
    refine ⟨_, (pss_cons (ps_asg (pv 0) (pg_tup (by rfl) (pgs_cons (pg_name (i := 2) sc_multiply_ratios.nd rfl (Or.inl rfl)) (pgs_cons (pg_name (i := 3) sc_multiply_ratios.nd rfl (Or.inl rfl)) pgs_nil))))
      (pss_cons (ps_asg (pv 1) (pg_tup (by rfl) (pgs_cons (pg_name (i := 4) sc_multiply_ratios.nd rfl (Or.inl rfl)) (pgs_cons (pg_name (i := 5) sc_multiply_ratios.nd rfl (Or.inl rfl)) pgs_nil))))
      (pss_one (ps_ret (pe_call G_ratio (hr.mono (by omega)) rfl m_ratio k_ratio b_ratio .nil passL (pa_cons (pe_op op_mulW (pv 2) (pv 4)) (pa_cons (pe_op op_mulW (pv 3) (pv 5)) pa_nil))))))), ?_⟩
    obtain ⟨p1, rfl, hp1⟩ := dp_rat_inv hx
    obtain ⟨p2, rfl, hp2⟩ := dp_rat_inv hy
    refine ⟨_, rfl, p1, _, rfl, hp1, rfl, .int _, _, rfl, .int _, _, rfl, rfl, ?_⟩
    refine ⟨_, rfl, p2, _, rfl, hp2, rfl, .int _, _, rfl, .int _, _, rfl, rfl, ?_⟩
    refine ⟨_, rfl, _, rfl, _, _, rfl, rfl, mulW_of sa.1 sb.1 j0 k0 hjk, _, rfl, _, rfl, _, _, rfl, rfl, mulW_of sa.2 sb.2 j0 k0 hjk, ?_⟩
    refine ⟨_, _, rfl, fun h => gcd_log h (to8000 (lt_mul sa.2 sb.2) (by omega)), fun _ p H3 s3 h3 => q p H3 s3 h3, fun z => absurd z (mne ra rb)⟩
end

/-- what the module holds besides -/
structure Ut4 (K : PySem.W.Frag) (mg : Str → Option Value) : Prop where
  n_str : mg "str" = none
  n_set : mg "set" = none
  n_sorted : mg "sorted" = none
  g_words : ∃ a, mg "FUNCTION_WORDS" = some (.ref a) ∧ ∀ H, SqT K H a [V.str "sum", V.str "average"]
  g_zero : ∃ a, mg "ZERO" = some (.ref a) ∧ ∀ H, SqT K H a [V.int 0, V.int 1]
  g_letters : ∃ t, mg "NAME_LETTERS" = some (.int 8 t)
mutual
/-- short texts, few parts -/
def shortD : PyData → Bool
  | .str x => decide (x.length ≤ 100)
  | .list ds => decide (ds.length ≤ 60) && shortDs ds
  | .tuple ds => decide (ds.length ≤ 60) && shortDs ds
  | _ => true
def shortDs : List PyData → Bool
  | [] => true
  | d :: ds => shortD d && shortDs ds
end
def spDS (K : PySem.W.Frag) (f : PyData → Bool) : Sp := fun vs H Q _ => ∃ (v : V) (d : PyData), vs = [v] ∧ Dp K H v d ∧ shortD d = true ∧ ∀ H', Same H H' → Q (.bl (f d)) H'
def nameD : PyData → Bool | .str x => nameL x.cps.toList | _ => false
theorem nameD_S (l : List Nat) : nameD (.str (SX.S l)) = nameL l := by
  show nameL (SX.S l).cps.toList = _
  simp [SX.S]
theorem eqv_rats (a b c d : Int) : PyData.eqv (rat a b) (rat c d) = decide (a = c ∧ b = d) := by
  unfold rat
  simp [PyData.eqv, PyData.eqvAll]
  rfl
theorem ratOf_red {d : PyData} {z : Int × Int} (h : ratOf d = some z) : Red z := by
  have e := ratOf_is h
  subst e
  have h2 : (if 1 ≤ z.2 ∧ Int.gcd z.1 z.2 = 1 then some (z.1, z.2) else none) = some z := h
  split at h2
  · rename_i w
    exact ⟨by omega, w.2⟩
  · cases h2
theorem zero_rat {z : Int × Int} (h : Red z) : decide (z.1 ≠ 0) = !decide (z.1 = 0 ∧ z.2 = 1) := by
  by_cases c : z.1 = 0
  · have g := h.co
    rw [c, Int.gcd_zero_left] at g
    have p := h.pos
    rw [decide_eq_false (fun y => y c), decide_eq_true (⟨c, by omega⟩ : z.1 = 0 ∧ z.2 = 1)]
    rfl
  · rw [decide_eq_true c, decide_eq_false (fun y => c y.1)]
    rfl
/-- a pair of a name and a ratio other than 0 -/
def termP : List PyData → Bool
  | [n, r] => nameD n && (match ratOf r with | some z => decide (z.1 ≠ 0) | none => false)
  | _ => false
def termD : PyData → Bool | .tuple ds => termP ds | _ => false
theorem words_in (l : List Nat) : inV (tx l) [V.str (Str.ofString "sum"), V.str (Str.ofString "average")] = decide (l = [115, 117, 109] ∨ l = [97, 118, 101, 114, 97, 103, 101]) := by
  show ((Str.ofString "sum" == SX.S l) || ((Str.ofString "average" == SX.S l) || false)) = _
  rw [show Str.ofString "sum" = SX.S [115, 117, 109] by decide +kernel, show Str.ofString "average" = SX.S [97, 118, 101, 114, 97, 103, 101] by decide +kernel, SX.S_beq_eq, SX.S_beq_eq, Bool.or_false]
  rw [Bool.eq_iff_iff, Bool.or_eq_true, decide_eq_true_eq, decide_eq_true_eq, decide_eq_true_eq]
  exact ⟨fun h => h.imp Eq.symm Eq.symm, fun h => h.imp Eq.symm Eq.symm⟩
section
variable {P : Program} {w : World} {K : PySem.W.Frag} {mg : Str → Option Value} {base : Heap}
theorem ok_is_name (T : Bt mg) (Tt : Ut4 K mg) (D : Df K mg "is_name" s_is_name ["value"]) : Kn P w K mg base CX0 "is_name" 1 ["value"] (spDS K nameD) := by
  obtain ⟨t8, hnl⟩ := Tt.g_letters
  obtain ⟨aw, hfw, sfw⟩ := Tt.g_words
  obtain ⟨f, fd, F, hm, hb⟩ := D
  refine ⟨f, fd, F.ok sc_is_name (fun vs H Q E h => ?_) (fun cdv A outer s H vs Q E hr h => ?_), hm, F.kp, hb⟩
  · obtain ⟨v, d, rfl, _⟩ := h
    rfl
  · obtain ⟨v, d, rfl, hd, hsh, q⟩ := h
    have q0 := q H (Same.refl H)
    refine ⟨_, (pss_cons (ps_if (PW.pt (pw_or (pt_not (pt_val (pe_callB (cr_isi (K := K) rfl) (by rfl) T.n_isinstance (by decide +kernel) (pa_cons (pv 0) (pa_cons (pe_bltn (v := .ty "str") (by rfl) Tt.n_str (by decide +kernel) rfl) pa_nil))))) (pw_or (pt_cmpR op_gt (pe_callB call_len_str (by rfl) T.n_len (by decide +kernel) (pa_cons (pv 0) pa_nil)) (pe_glob (v := .int 8) rfl hnl ⟨_, rfl⟩) (nomark _)) (pw_or1 (pt_cmpR op_in_seq (pv 0) (pe_glob (v := .ref aw) rfl hfw rfl) (by rfl)))))) (pss_one (ps_ret pe_bl)) pss_nil)
      (pss_one (ps_ret (pe_and (pe_bm0 PySem.F.plainAttrs_str PySem.F.slot_str_isascii PySem.F.type_str_isascii mt_isascii (pv 0)) (pe_and (pe_bm0 PySem.F.plainAttrs_str PySem.F.slot_str_isalpha PySem.F.type_str_isalpha mt_isalpha (pv 0)) (pe_one (pe_bm0 PySem.F.plainAttrs_str PySem.F.slot_str_islower PySem.F.type_str_islower mt_islower (pv 0)))))))), ?_⟩
    refine ⟨_, rfl, _, _, _, _, _, rfl, .ty _, dp_ty hd, kit_ty (kb_str d), _, rfl, ?_⟩
    refine ite2 (fun c => ?_) (fun c => ?_)
    · have e : nameD d = false := by cases d <;> first | rfl | cases c
      rw [e] at q0
      exact q0
    · obtain ⟨x, rfl⟩ : ∃ x, d = .str x := by cases d <;> first | exact ⟨_, rfl⟩ | exact absurd rfl c
      obtain ⟨l, rfl⟩ : ∃ l, x = SX.S l := ⟨x.cps.toList, (SX.S_tl x).symm⟩
      cases hd
      rw [nameD_S] at q0
      have hlen : l.length ≤ 100 := by
        have z := of_decide_eq_true (show decide ((SX.S l).length ≤ 100) = true from hsh)
        rw [SX.S_len] at z
        exact z
      have hsl : (SX.S l).length ≤ sizeLine := by rw [SX.S_len]; exact Nat.le_trans hlen (by decide)
      refine ⟨_, rfl, _, rfl, hsl, _, _, rfl, rfl, _, rfl, ?_⟩
      refine ite2 (fun c1 => ?_) (fun c1 => ?_)
      · have e : nameL l = false := by
          have z := of_decide_eq_true c1
          rw [SX.S_len] at z
          unfold nameL
          rw [show decide (l.length < 9) = false from decide_eq_false (by omega)]
          simp
        rw [e] at q0
        exact q0
      · refine ⟨_, rfl, aw, _, rfl, .inr (sfw _), rfl, rfl, _, rfl, ?_⟩
        have hw := words_in l
        have hl9 : decide (l.length < 9) = true := by
          have z := of_decide_eq_false (Bool.eq_false_iff.mpr c1)
          rw [SX.S_len] at z
          exact decide_eq_true (by omega)
        refine ite2 (fun c2 => ?_) (fun c2 => ?_)
        · have z := of_decide_eq_true (hw.symm.trans c2)
          have e : nameL l = false := by
            unfold nameL
            rcases z with z | z
            · rw [z]; rfl
            · rw [z]; rfl
          rw [e] at q0
          exact q0
        · have z := of_decide_eq_false (hw.symm.trans (Bool.eq_false_iff.mpr c2))
          have e : nameL l = (decide (l ≠ []) && l.all az) := by
            unfold nameL
            rw [hl9, decide_eq_true (p := l ≠ [115, 117, 109]) (fun y => z (.inl y)), decide_eq_true (p := l ≠ [97, 118, 101, 114, 97, 103, 101]) (fun y => z (.inr y))]
            rw [Bool.and_true, Bool.and_true, Bool.and_true]
          rw [e, ← small_signs] at q0
          refine ⟨_, rfl, rfl, _, rfl, rfl, trivial, _, rfl, ?_⟩
          rw [asciiS]
          refine ite2 (fun k1 => ?_) (fun k1 => ?_)
          · rw [if_pos k1] at q0
            refine ⟨_, rfl, rfl, _, rfl, rfl, trivial, _, rfl, ?_⟩
            rw [alphaS]
            refine ite2 (fun k2 => ?_) (fun k2 => ?_)
            · rw [if_pos k2] at q0
              refine ⟨_, rfl, rfl, _, rfl, rfl, trivial, ?_⟩
              rw [lowerS]
              exact q0
            · rw [if_neg k2] at q0
              exact q0
          · rw [if_neg k1] at q0
            exact q0
theorem ok_is_term (T : Bt mg) (Tt : Ut4 K mg) (GN : Kn P w K mg base CX0 "is_name" 1 ["value"] (spDS K nameD)) (GR : Kn P w K mg base CX0 "is_ratio" 2 ["value"] (spD K isRat)) (D : Df K mg "is_term" s_is_term ["value"]) :
    Kn P w K mg base CX0 "is_term" 3 ["value"] (spDS K termD) := by
  obtain ⟨az, hz, saz⟩ := Tt.g_zero
  obtain ⟨f, fd, F, hm, hb⟩ := D
  obtain ⟨f_is_name, fd_is_name, G_is_name, m_is_name, k_is_name, b_is_name⟩ := GN
  obtain ⟨f_is_ratio, fd_is_ratio, G_is_ratio, m_is_ratio, k_is_ratio, b_is_ratio⟩ := GR
  refine ⟨f, fd, F.ok sc_is_term (fun vs H Q E h => ?_) (fun cdv A outer s H vs Q E hr h => ?_), hm, F.kp, hb⟩
  · obtain ⟨v, d, rfl, _⟩ := h
    rfl
  · obtain ⟨v, d, rfl, hd, hsh, q⟩ := h
    refine ⟨_, (pss_cons (ps_if (PW.pt (pw_or (pt_not (pt_val (pe_callB (cr_isi (K := K) rfl) (by rfl) T.n_isinstance (by decide +kernel) (pa_cons (pv 0) (pa_cons (pe_bltn (v := .ty "tuple") (by rfl) T.n_tuple (by decide +kernel) rfl) pa_nil))))) (pw_or1 (pt_cmpR op_ne (pe_callB call_len_seq (by rfl) T.n_len (by decide +kernel) (pa_cons (pv 0) pa_nil)) pe_int (nomark _))))) (pss_one (ps_ret pe_bl)) pss_nil)
      (pss_cons (ps_asg (pv 0) (pg_tup (by rfl) (pgs_cons (pg_name (i := 1) sc_is_term.nd rfl (Or.inl rfl)) (pgs_cons (pg_name (i := 2) sc_is_term.nd rfl (Or.inl rfl)) pgs_nil))))
      (pss_one (ps_ret (pe_and (pe_call G_is_name (hr.mono (by omega)) rfl m_is_name k_is_name b_is_name .nil pass0 (pa_cons (pv 1) pa_nil)) (pe_and (pe_call G_is_ratio (hr.mono (by omega)) rfl m_is_ratio k_is_ratio b_is_ratio .nil pass0 (pa_cons (pv 2) pa_nil)) (pe_one (pe_cmpR (op_neD hr.units) (pv 2) (pe_glob (v := .ref az) rfl hz rfl) (nomark _))))))))), ?_⟩
    refine ⟨_, rfl, _, _, _, _, _, rfl, .ty _, dp_ty hd, kit_ty (kb_tup d), _, rfl, ?_⟩
    refine ite2 (fun c => ?_) (fun c => ?_)
    · have e : termD d = false := by cases d <;> first | rfl | cases c
      have q0 := q H (Same.refl H)
      rw [e] at q0
      exact q0
    · obtain ⟨ds, rfl⟩ : ∃ ds, d = .tuple ds := by cases d <;> first | exact ⟨_, rfl⟩ | exact absurd rfl c
      cases hd with
      | @tup a xs _ hs ha =>
        have hl := dps_len ha
        refine ⟨_, rfl, a, _, rfl, .inr hs, rfl, _, rfl, ?_⟩
        refine ite2 (fun c2 => ?_) (fun c2 => ?_)
        · have e : termD (.tuple ds) = false := by
            match ds, xs, hl, c2 with
            | [], _, _, _ => rfl
            | [_], _, _, _ => rfl
            | [_, _], xs, hl, c2 =>
              have hl2 : xs.length = 2 := hl
              rw [hl2] at c2
              exact absurd c2 (by decide)
            | _ :: _ :: _ :: _, _, _, _ => rfl
          have q0 := q H (Same.refl H)
          rw [e] at q0
          exact q0
        · have h2 : xs.length = 2 := by
            by_cases z : (xs.length : Int) = 2
            · omega
            · exact absurd (by simp [z]) c2
          obtain ⟨d1, d2, rfl⟩ : ∃ d1 d2, ds = [d1, d2] := by
            rw [h2] at hl
            match ds, hl with
            | [d1, d2], _ => exact ⟨d1, d2, rfl⟩
          cases ha with
          | @cons x1 _ _ _ h1 ha =>
            cases ha with
            | @cons x2 _ _ _ hx2 ha =>
              cases ha
              have hs1 : shortD d1 = true ∧ shortD d2 = true := by
                have z : (true && (shortD d1 && (shortD d2 && true))) = true := hsh
                rw [Bool.true_and, Bool.and_true, Bool.and_eq_true] at z
                exact z
              refine ⟨_, rfl, a, _, rfl, hs, rfl, x1, _, rfl, x2, _, rfl, rfl, ?_⟩
              refine ⟨_, rfl, x1, d1, rfl, h1, hs1.1, fun H1 s1 => ⟨_, rfl, ?_⟩⟩
              refine ite2 (fun c3 => ?_) (fun c3 => ?_)
              · refine ⟨_, rfl, x2, d2, rfl, dp_same s1 _ _ hx2, fun H2 s2 => ⟨_, rfl, ?_⟩⟩
                refine ite2 (fun c4 => ?_) (fun c4 => ?_)
                · obtain ⟨z, hz4⟩ : ∃ z, ratOf d2 = some z := Option.isSome_iff_exists.mp c4
                  have ed := ratOf_is hz4
                  subst ed
                  refine ⟨_, rfl, _, _, dp_same (s1.trans s2) _ _ hx2, .tup (saz _) (.cons (.int 0) (.cons (.int 1) .nil)), rfl, rfl, ?_⟩
                  have q0 := q H2 (s1.trans s2)
                  have e : termD (.tuple [d1, rat z.1 z.2]) = !PyData.eqv (rat z.1 z.2) (rat 0 1) := by
                    show (nameD d1 && (match ratOf (rat z.1 z.2) with | some z => decide (z.1 ≠ 0) | none => false)) = _
                    rw [c3, hz4, eqv_rats, Bool.true_and]
                    exact zero_rat (ratOf_red hz4)
                  rw [e] at q0
                  exact q0
                · have e : termD (.tuple [d1, d2]) = false := by
                    have z : ratOf d2 = none := by
                      cases h : ratOf d2 with
                      | none => rfl
                      | some z => exact absurd (show isRat d2 = true by unfold isRat; rw [h]; rfl) c4
                    show (nameD d1 && (match ratOf d2 with | some z => decide (z.1 ≠ 0) | none => false)) = false
                    rw [z, Bool.and_false]
                  have q0 := q H2 (s1.trans s2)
                  rw [e] at q0
                  exact q0
              · have e : termD (.tuple [d1, d2]) = false := by
                  show (nameD d1 && _) = false
                  rw [Bool.eq_false_iff.mpr c3, Bool.false_and]
                have q0 := q H1 s1
                rw [e] at q0
                exact q0
end

def fstName : PyData → Str
  | .tuple (.str x :: _) => x
  | _ => Str.empty
def formP : List PyData → Bool
  | [t, c] => (match t with | .tuple ts => isRat c && (ts.all termD && inOrder (ts.map fstName)) | _ => false)
  | _ => false
def formD : PyData → Bool | .tuple ds => formP ds | _ => false
theorem term_shape {d : PyData} (h : termD d = true) : ∃ x r, d = .tuple [.str x, r] ∧ nameL x.cps.toList = true ∧ ∃ z, ratOf r = some z ∧ z.1 ≠ 0 := by
  cases d with
  | tuple ds =>
    match ds, h with
    | [n, r], h =>
      have h2 : (nameD n && (match ratOf r with | some z => decide (z.1 ≠ 0) | none => false)) = true := h
      rw [Bool.and_eq_true] at h2
      obtain ⟨x, rfl⟩ : ∃ x, n = .str x := by
        cases n with
        | str x => exact ⟨x, rfl⟩
        | none => cases h2.1
        | bool _ => cases h2.1
        | int _ => cases h2.1
        | list _ => cases h2.1
        | tuple _ => cases h2.1
        | dict _ => cases h2.1
      refine ⟨x, r, rfl, h2.1, ?_⟩
      have h3 := h2.2
      cases hr : ratOf r with
      | none => rw [hr] at h3; cases h3
      | some z =>
        rw [hr] at h3
        exact ⟨z, rfl, of_decide_eq_true h3⟩
  | none => cases h
  | bool _ => cases h
  | int _ => cases h
  | str _ => cases h
  | list _ => cases h
  | dict _ => cases h
theorem name_ok {x : Str} (h : nameL x.cps.toList = true) : PyData.strOk x = true := by
  unfold nameL at h
  rw [Bool.and_eq_true, Bool.and_eq_true, Bool.and_eq_true] at h
  unfold PyData.strOk
  rw [← Array.all_toList, List.all_eq_true]
  intro c hc
  rw [decide_eq_true_eq]
  exact Nat.lt_trans (az_ascii (List.all_eq_true.mp h.1.1.2 c hc)) (by decide)
abbrev strD (xs : List Str) : PyData := .list (xs.map PyData.str)
theorem eqv_strs : ∀ xs ys : List Str, PyData.eqv (strD xs) (strD ys) = decide (xs = ys) := by
  have key : ∀ xs ys : List Str, PyData.eqvAll (xs.map PyData.str) (ys.map PyData.str) = decide (xs = ys) := by
    intro xs
    induction xs with
    | nil => intro ys; cases ys <;> rfl
    | cons x xs ih =>
      intro ys
      cases ys with
      | nil => rfl
      | cons y ys =>
        show ((x == y) && PyData.eqvAll (xs.map PyData.str) (ys.map PyData.str)) = _
        rw [ih ys, Bool.eq_iff_iff, Bool.and_eq_true, decide_eq_true_eq, decide_eq_true_eq, beq_iff_eq]
        exact ⟨fun h => by rw [h.1, h.2], fun h => ⟨(List.cons.inj h).1, (List.cons.inj h).2⟩⟩
  exact key
theorem lay_strs : ∀ xs : List Str, (∀ x ∈ xs, PyData.strOk x = true) → PyData.canLayAll0 (xs.map PyData.str) = true
  | [], _ => rfl
  | x :: xs, h => by
    show (PyData.strOk x && PyData.canLayAll0 (xs.map PyData.str)) = true
    rw [h x (List.mem_cons_self ..), lay_strs xs fun y hy => h y (List.mem_cons_of_mem _ hy)]
    rfl
theorem deep_strs : ∀ xs : List Str, PyData.depthAll (xs.map PyData.str) = 0
  | [] => rfl
  | x :: xs => by
    show max 0 (PyData.depthAll (xs.map PyData.str)) = 0
    rw [deep_strs xs]
    rfl
theorem shp_strs {xs : List Str} (h : ∀ x ∈ xs, PyData.strOk x = true) : SeqAt.shaped (strD xs) = true := by
  unfold SeqAt.shaped
  rw [show (strD xs).canLay0 = true from lay_strs xs h, show (strD xs).depth = 1 by show PyData.depthAll (xs.map PyData.str) + 1 = 1; rw [deep_strs]]
  rfl
theorem dps_strs {K : PySem.W.Frag} {H : Hp} : ∀ xs : List Str, DpAll K H (xs.map V.str) (xs.map PyData.str)
  | [] => .nil
  | x :: xs => .cons (.str x) (dps_strs xs)
theorem short_tup {ds : List PyData} (h : shortD (.tuple ds) = true) : ds.length ≤ 60 ∧ ∀ d ∈ ds, shortD d = true := by
  have z := Bool.and_eq_true_iff.mp (show (decide (ds.length ≤ 60) && shortDs ds) = true from h)
  have key : ∀ ds : List PyData, shortDs ds = true → ∀ d ∈ ds, shortD d = true := by
    intro ds
    induction ds with
    | nil => intro _ d hd; cases hd
    | cons x ds ih =>
      intro h d hd
      have y := Bool.and_eq_true_iff.mp (show (shortD x && shortDs ds) = true from h)
      rcases List.mem_cons.mp hd with rfl | hd
      · exact y.1
      · exact ih y.2 d hd
  exact ⟨of_decide_eq_true z.1, key ds z.2⟩
section
variable {P : Program} {w : World} {K : PySem.W.Frag} {mg : Str → Option Value} {base : Heap}
theorem ok_is_form (T : Bt mg) (Tt : Ut4 K mg) (GT : Kn P w K mg base CX0 "is_term" 3 ["value"] (spDS K termD)) (GR : Kn P w K mg base CX0 "is_ratio" 2 ["value"] (spD K isRat)) (D : Df K mg "is_form" s_is_form ["value"]) :
    Kn P w K mg base CX0 "is_form" 4 ["value"] (spDS K formD) := by
  obtain ⟨f, fd, F, hm, hb⟩ := D
  obtain ⟨f_is_term, fd_is_term, G_is_term, m_is_term, k_is_term, b_is_term⟩ := GT
  obtain ⟨f_is_ratio, fd_is_ratio, G_is_ratio, m_is_ratio, k_is_ratio, b_is_ratio⟩ := GR
  refine ⟨f, fd, F.ok sc_is_form (fun vs H Q E h => ?_) (fun cdv A outer s H vs Q E hr h => ?_), hm, F.kp, hb⟩
  · obtain ⟨v, d, rfl, _⟩ := h
    rfl
  · obtain ⟨v, d, rfl, hd, hsh, q⟩ := h
    refine ⟨_, (pss_cons (ps_if (PW.pt (pw_or (pt_not (pt_val (pe_callB (cr_isi (K := K) rfl) (by rfl) T.n_isinstance (by decide +kernel) (pa_cons (pv 0) (pa_cons (pe_bltn (v := .ty "tuple") (by rfl) T.n_tuple (by decide +kernel) rfl) pa_nil))))) (pw_or1 (pt_cmpR op_ne (pe_callB call_len_seq (by rfl) T.n_len (by decide +kernel) (pa_cons (pv 0) pa_nil)) pe_int (nomark _))))) (pss_one (ps_ret pe_bl)) pss_nil)
      (pss_cons (ps_asg (pv 0) (pg_tup (by rfl) (pgs_cons (pg_name (i := 1) sc_is_form.nd rfl (Or.inl rfl)) (pgs_cons (pg_name (i := 2) sc_is_form.nd rfl (Or.inl rfl)) pgs_nil))))
      (pss_cons (ps_if (PW.pt (pw_or (pt_not (pt_val (pe_callB (cr_isi (K := K) rfl) (by rfl) T.n_isinstance (by decide +kernel) (pa_cons (pv 1) (pa_cons (pe_bltn (v := .ty "tuple") (by rfl) T.n_tuple (by decide +kernel) rfl) pa_nil))))) (pw_or1 (pt_not (pt_val (pe_call G_is_ratio (hr.mono (by omega)) rfl m_is_ratio k_is_ratio b_is_ratio .nil pass0 (pa_cons (pv 2) pa_nil))))))) (pss_one (ps_ret pe_bl)) pss_nil)
      (pss_cons (ps_if (pt_not (pt_val (pe_callB (cr_all rfl) (by rfl) T.n_all (by decide +kernel) (pa_cons (pe_lc (own := [("term", 4)]) rfl sc_is_form.nd (pi_tup (pv 1)) (blkOk_by (N := ["value", "terms", "constant", "names", "term", "name", "_"]) (sc := defScope s_is_form) (by decide +kernel)) (fun _ _ _ _ _ => (pg_name (i := 4) sc_is_form.nd rfl (Or.inl rfl))) (fun _ _ _ _ _ => pts_nil) (fun _ _ _ _ _ => (pe_call G_is_term (hr.mono (by omega)) rfl m_is_term k_is_term b_is_term .nil pass0 (pa_cons (pv 4) pa_nil)))) pa_nil)))) (pss_one (ps_ret pe_bl)) pss_nil)
      (pss_cons (ps_setLc (i := 3) (own := [("name", 5), ("_", 6)]) rfl sc_is_form.nd rfl rfl (sw_true rfl rfl rfl (by decide +kernel)) (pi_tup (pv 1)) (blkOk_by (N := ["value", "terms", "constant", "names", "term", "name", "_"]) (sc := defScope s_is_form) (by decide +kernel)) (fun _ _ _ _ _ => (pg_tupK (K := K) (n := 2) rfl (by rfl) (pgs_cons (pg_name (i := 5) sc_is_form.nd rfl (Or.inl rfl)) (pgs_cons (pg_name (i := 6) sc_is_form.nd rfl (Or.inl rfl)) pgs_nil)) (by rfl) (by rfl))) (fun _ _ _ _ _ => pts_nil) (fun _ _ _ _ _ => (pv 5)))
      (pss_one (ps_ret (pe_cmpR (op_eqD hr.units) (pv 3) (pe_callB (cr_sortTxt (by rfl)) (by rfl) Tt.n_sorted (by decide +kernel) (pa_cons (pe_callTy (cr_setTxt (by rfl)) (by rfl) Tt.n_set (by decide +kernel) (pa_cons (pv 3) pa_nil)) pa_nil)) (nomark _))))))))), ?_⟩
    refine ⟨_, rfl, _, _, _, _, _, rfl, .ty _, dp_ty hd, kit_ty (kb_tup d), _, rfl, ?_⟩
    refine ite2 (fun c => ?_) (fun c => ?_)
    · have e : formD d = false := by cases d <;> first | rfl | cases c
      have q0 := q H (Same.refl H)
      rw [e] at q0
      exact q0
    · obtain ⟨ds, rfl⟩ : ∃ ds, d = .tuple ds := by cases d <;> first | exact ⟨_, rfl⟩ | exact absurd rfl c
      cases hd with
      | @tup a xs _ hs ha =>
        have hl := dps_len ha
        refine ⟨_, rfl, a, _, rfl, .inr hs, rfl, _, rfl, ?_⟩
        refine ite2 (fun c2 => ?_) (fun c2 => ?_)
        · have e : formD (.tuple ds) = false := by
            match ds, xs, hl, c2 with
            | [], _, _, _ => rfl
            | [_], _, _, _ => rfl
            | [_, _], xs, hl, c2 =>
              have hl2 : xs.length = 2 := hl
              rw [hl2] at c2
              exact absurd c2 (by decide)
            | _ :: _ :: _ :: _, _, _, _ => rfl
          have q0 := q H (Same.refl H)
          rw [e] at q0
          exact q0
        · have h2 : xs.length = 2 := by
            by_cases z : (xs.length : Int) = 2
            · omega
            · exact absurd (by simp [z]) c2
          obtain ⟨d1, d2, rfl⟩ : ∃ d1 d2, ds = [d1, d2] := by
            rw [h2] at hl
            match ds, hl with
            | [d1, d2], _ => exact ⟨d1, d2, rfl⟩
          cases ha with
          | @cons x1 _ _ _ h1 ha =>
            cases ha with
            | @cons x2 _ _ _ hx2 ha =>
              cases ha
              have hsh1 := (short_tup hsh).2 d1 (List.mem_cons_self ..)
              refine ⟨_, rfl, a, _, rfl, hs, rfl, x1, _, rfl, x2, _, rfl, rfl, ?_⟩
              refine ⟨_, rfl, _, _, _, _, _, rfl, .ty _, dp_ty h1, kit_ty (kb_tup d1), _, rfl, ?_⟩
              refine ite2 (fun c3 => ?_) (fun c3 => ?_)
              · have e : formD (.tuple [d1, d2]) = false := by cases d1 <;> first | rfl | cases c3
                have q0 := q H (Same.refl H)
                rw [e] at q0
                exact q0
              · obtain ⟨ts, rfl⟩ : ∃ ts, d1 = .tuple ts := by cases d1 <;> first | exact ⟨_, rfl⟩ | exact absurd rfl c3
                refine ⟨_, rfl, x2, d2, rfl, hx2, fun H1 s1 => ⟨_, rfl, ?_⟩⟩
                refine ite2 (fun c4 => ?_) (fun c4 => ?_)
                · have e : formD (.tuple [.tuple ts, d2]) = false := by
                    show (isRat d2 && _) = false
                    rw [Bool.not_eq_true'] at c4
                    rw [c4, Bool.false_and]
                  have q0 := q H1 s1
                  rw [e] at q0
                  exact q0
                · have hr2 : isRat d2 = true := by
                    cases z : isRat d2 with
                    | true => rfl
                    | false => exact absurd (show (!isRat d2) = true by rw [z]; rfl) c4
                  cases h1 with
                  | @tup a1 ys _ hs1 ha1 =>
                    have hl1 := dps_len ha1
                    have hst := short_tup hsh1
                    have hs1' := same_seqT s1 hs1
                    refine ⟨_, rfl, a1, rfl, ⟨_, hs1'⟩, fun D hD => ?_⟩
                    refine lc_tup (K := K) (a := a1) (xs := ys) (fun i H' => Same H1 H' ∧ H' D = some (.lst (((ts.take i).map termD).map V.bl))) ⟨same_new hD _, upd_same⟩ (fun i H' _ h => same_seqT h.1 hs1') ?_ ?_
                    · rintro i x H2 hx ⟨s2, hacc⟩
                      obtain ⟨dt, hdt, hdx⟩ := dps_get ha1 hx
                      refine ⟨rfl, _, rfl, x, dt, rfl, dp_same (s1.trans s2) _ _ hdx, hst.2 dt (List.mem_of_getElem? hdt), fun H3 s3 => ?_⟩
                      refine ⟨_, s3 _ _ hacc, ?_, same_upd (s2.trans s3) hD, ?_⟩
                      · rw [List.length_map, List.length_map, List.length_take]
                        exact small1000 (by omega)
                      · rw [upd_same, take_more hdt, List.map_append, List.map_append]
                        rfl
                    · rintro H2 ⟨s2, hacc⟩
                      rw [hl1, List.take_length] at hacc
                      refine ⟨D, _, rfl, SqL.of hacc, _, rfl, ?_⟩
                      have eall : (ts.map termD).all id = ts.all termD := by rw [List.all_map]; rfl
                      rw [eall]
                      have s12 := s1.trans s2
                      refine ite2 (fun c5 => ?_) (fun c5 => ?_)
                      · have e : formD (.tuple [.tuple ts, d2]) = false := by
                          show (isRat d2 && (ts.all termD && _)) = false
                          rw [Bool.not_eq_true'] at c5
                          rw [c5, Bool.false_and, Bool.and_false]
                        have q0 := q H2 s12
                        rw [e] at q0
                        exact q0
                      · have hat : ts.all termD = true := by
                          cases z : ts.all termD with
                          | true => rfl
                          | false => exact absurd (show (!ts.all termD) = true by rw [z]; rfl) c5
                        have ht := List.all_eq_true.mp hat
                        have hs2' := same_seqT s12 hs1
                        refine ⟨_, rfl, a1, rfl, ⟨_, hs2'⟩, fun D2 hD2 => ?_⟩
                        refine lc_tup (K := K) (a := a1) (xs := ys) (fun i H' => Same H2 H' ∧ H' D2 = some (.lst (((ts.take i).map fstName).map V.str))) ⟨same_new hD2 _, upd_same⟩ (fun i H' _ h => same_seqT h.1 hs2') ?_ ?_
                        · rintro i x H3 hx ⟨s3, hacc2⟩
                          obtain ⟨dt, hdt, hdx⟩ := dps_get ha1 hx
                          have hdm := List.mem_of_getElem? hdt
                          obtain ⟨nm, r, rfl, _⟩ := term_shape (ht dt hdm)
                          have hdx3 := dp_same (s12.trans s3) _ _ hdx
                          cases hdx3 with
                          | @tup at_ zs _ hsz haz =>
                            cases haz with
                            | @cons n1 _ _ _ hn haz =>
                              cases haz with
                              | @cons r1 _ _ _ hr1 haz =>
                                cases haz
                                cases hn
                                refine ⟨_, _, rfl, hsz, rfl, _, _, rfl, _, _, rfl, rfl, rfl, _, rfl, ?_⟩
                                refine ⟨_, hacc2, ?_, same_upd s3 hD2, ?_⟩
                                · rw [List.length_map, List.length_map, List.length_take]
                                  exact small1000 (by omega)
                                · rw [upd_same, take_more hdt, List.map_append, List.map_append]
                                  rfl
                        · rintro H3 ⟨s3, hacc2⟩
                          rw [hl1, List.take_length] at hacc2
                          refine ⟨_, rfl, _, rfl, D2, ts.map fstName, rfl, SqL.of hacc2, (by rw [List.length_map]; omega), fun p np => ?_⟩
                          have s4 := same_new np (SetT P w p (ts.map fstName))
                          refine ⟨p, ts.map fstName, rfl, upd_same, (by rw [List.length_map]; omega), fun zs p2 nd same so np2 => ?_⟩
                          have s5 := same_new np2 (.lst (zs.map V.str))
                          have oks : ∀ x ∈ ts.map fstName, PyData.strOk x = true := fun x hx => by
                            obtain ⟨dt, hdm, rfl⟩ := List.mem_map.mp hx
                            obtain ⟨nm, r, rfl, hn, _⟩ := term_shape (ht dt hdm)
                            exact name_ok hn
                          refine ⟨strD (ts.map fstName), strD zs, .lst (SqL.of (s5 _ _ (s4 _ _ hacc2))) (dps_strs _), .lst (SqL.of upd_same) (dps_strs _), shp_strs oks, shp_strs fun x hx => oks x ((same x).mp hx), ?_⟩
                          rw [eqv_strs, order_is nd same so]
                          have e : formD (.tuple [.tuple ts, d2]) = inOrder (ts.map fstName) := by
                            show (isRat d2 && (ts.all termD && inOrder (ts.map fstName))) = _
                            rw [hr2, hat, Bool.true_and, Bool.true_and]
                          rw [← e]
                          exact q _ (s12.trans (s3.trans (s4.trans s5)))
end

def numD (z : Int × Int) : PyData := rat z.1 z.2
def termN (x : Str) (z : Int × Int) : PyData := .tuple [.str x, numD z]
def formN (ts : List (Str × (Int × Int))) (c : Int × Int) : PyData := .tuple [.tuple (ts.map fun t => termN t.1 t.2), numD c]
/-- a form in the heap: its terms' tuple has no dict of its own -/
def FormAt (K : PySem.W.Frag) (H : Hp) (v : V) (ts : List (Str × (Int × Int))) (c : Int × Int) : Prop := ∃ a p xs vc, v = .ref a ∧ SqT K H a [.ref p, vc] ∧ Dp K H vc (numD c) ∧ NdT H p xs ∧ DpAll K H xs (ts.map fun t => termN t.1 t.2)
theorem FormAt.dp {K : PySem.W.Frag} {H : Hp} {v : V} {ts : List (Str × (Int × Int))} {c : Int × Int} (h : FormAt K H v ts c) : Dp K H v (formN ts c) := by
  obtain ⟨a, p, xs, vc, rfl, h1, h2, h3, h4⟩ := h
  exact .tup h1 (.cons (.tup h3.sq h4) (.cons h2 .nil))
theorem FormAt.same {K : PySem.W.Frag} {H H' : Hp} {v : V} {ts : List (Str × (Int × Int))} {c : Int × Int} (h : FormAt K H v ts c) (s : Same H H') : FormAt K H' v ts c := by
  obtain ⟨a, p, xs, vc, rfl, h1, h2, h3, h4⟩ := h
  exact ⟨a, p, xs, vc, rfl, same_seqT s h1, dp_same s _ _ h2, h3.same s, dps_same s _ _ h4⟩
def spConstF (K : PySem.W.Frag) : Sp := fun vs H Q _ => ∃ (v : V) (z : Int × Int), vs = [v] ∧ Nv K H v z ∧ ∀ r H', Same H H' → FormAt K H' r [] z → Q r H'
section
variable {P : Program} {w : World} {K : PySem.W.Frag} {mg : Str → Option Value} {base : Heap}
theorem ok_constant_form {C : Addr} (GA : Kn P w K mg base (L2.CX P w) "as_ratio" 3 ["value"] (spAsRatio K C)) (D : Df K mg "constant_form" s_constant_form ["number"]) : Kn P w K mg base CX0 "constant_form" 4 ["number"] (spConstF K) := by
  obtain ⟨f, fd, F, hm, hb⟩ := D
  obtain ⟨f_as_ratio, fd_as_ratio, G_as_ratio, m_as_ratio, k_as_ratio, b_as_ratio⟩ := GA
  refine ⟨f, fd, F.ok sc_constant_form (fun vs H Q E h => ?_) (fun cdv A outer s H vs Q E hr h => ?_), hm, F.kp, hb⟩
  · obtain ⟨v, z, rfl, _⟩ := h
    rfl
  · obtain ⟨v, z, rfl, hv, q⟩ := h
    refine ⟨_, (pss_one (ps_ret (pe_tup (pa_cons (pe_tupF pa_nil) (pa_cons (pe_call G_as_ratio (hr.mono (by omega)) rfl m_as_ratio k_as_ratio b_as_ratio .nil passL (pa_cons (pv 0) pa_nil)) pa_nil))))), ?_⟩
    obtain ⟨d1, hd1, e1⟩ := hv
    refine ⟨(by show 0 ≤ sizeLine; decide), fun p o np od => ?_⟩
    have s1 := same_new np (.frz o (.tup []))
    refine ⟨_, rfl, v, d1, rfl, dp_same s1 _ _ hd1, fun t m r H1 e s2 hr1 => ?_, fun e => by rw [e1] at e; cases e⟩
    obtain rfl : z = (t, m) := Option.some.inj (e1.symm.trans e)
    refine ⟨(by show 2 ≤ sizeLine; decide), fun p2 np2 => ?_⟩
    have s3 := same_new np2 (.tup [.ref p, r])
    exact q _ _ (s1.trans (s2.trans s3)) ⟨p2, p, [], r, rfl, SqT.of upd_same, dp_same s3 _ _ hr1, ⟨o, s3 _ _ (s2 _ _ upd_same), od⟩, .nil⟩
end

theorem ix_tupK {X : Cx} {K : PySem.W.Frag} (h : X.K = K) : IxR X (rIxT K) := by
  subst h
  exact ix_tup
/-- a comprehension over a text -/
theorem lc_str {l : List Nat} {g : TG} {tt : TT} {te : TE} {vs : List Nat} {σ : St} {H1 : Hp} {D : Addr} {Qd : Hp → Prop} (Pv : Nat → Hp → Prop) (h0 : Pv 0 (upd H1 D (.lst [])))
    (hs : ∀ i c H, l[i]? = some c → Pv i H → g (tx [c]) (wipe σ vs) H fun σ2 H2 => wipe σ2 vs = wipe σ vs ∧ tt σ2 H2 fun b H3 => if b = true then te σ2 H3 fun y H4 => ∃ acc, H4 D = some (.lst acc) ∧ acc.length < sizeLine ∧ Pv (i + 1) (upd H4 D (.lst (acc ++ [y]))) else Pv (i + 1) H3)
    (hd : ∀ H, Pv l.length H → Qd H) :
    ∃ W : Nat → Nat → Hp → Prop, (∃ m, W 0 m (upd H1 D (.lst []))) ∧ ∀ i m H, W i m H →
      ((Its (SX.S l)).stop i H ∧ Qd H) ∨ ((Its (SX.S l)).go i H ∧ ∃ Nx : Hp → Prop, (∀ H', Nx H' → ∃ m', m' < m ∧ W (i + 1) m' H') ∧ ∀ x H', (Its (SX.S l)).yld i H x H' → g x (wipe σ vs) H' fun σ2 H2 => wipe σ2 vs = wipe σ vs ∧ tt σ2 H2 fun b H3 => if b = true then te σ2 H3 fun y H4 => ∃ acc, H4 D = some (.lst acc) ∧ acc.length < sizeLine ∧ Nx (upd H4 D (.lst (acc ++ [y]))) else Nx H3) := by
  have hsz : (SX.S l).cps.size = l.length := by simp [SX.S]
  refine ⟨fun i m H => m = l.length - i ∧ i ≤ l.length ∧ Pv i H, ⟨l.length, by simp, Nat.zero_le _, h0⟩, ?_⟩
  rintro i m H ⟨rfl, hi, p⟩
  by_cases lt : i < l.length
  · refine .inr ⟨by show i < (SX.S l).cps.size; omega, Pv (i + 1), fun H' p' => ⟨l.length - (i + 1), by omega, rfl, lt, p'⟩, fun x H' y => ?_⟩
    obtain ⟨e, c, hc, rfl⟩ := y
    subst e
    exact hs i c _ (by rw [← hc]; simp [SX.S]) p
  · have e : i = l.length := by omega
    subst e
    exact .inl ⟨by show (SX.S l).cps.size ≤ l.length; omega, hd _ p⟩
theorem letters_S : Str.ofString "abcdefghijklmnopqrstuvwxyz" = SX.S [97, 98, 99, 100, 101, 102, 103, 104, 105, 106, 107, 108, 109, 110, 111, 112, 113, 114, 115, 116, 117, 118, 119, 120, 121, 122] := by decide +kernel
theorem az_mem (c : Nat) : decide (c ∈ [97, 98, 99, 100, 101, 102, 103, 104, 105, 106, 107, 108, 109, 110, 111, 112, 113, 114, 115, 116, 117, 118, 119, 120, 121, 122]) = az c := by
  unfold az
  rw [Bool.eq_iff_iff, decide_eq_true_eq, Bool.and_eq_true, decide_eq_true_eq, decide_eq_true_eq]
  simp only [List.mem_cons, List.not_mem_nil, or_false]
  omega

theorem op_notInK {X : Cx} {K : PySem.W.Frag} (h : X.K = K) : OpR X (compareOp .NotIn) (rIn K true) := by
  subst h
  exact op_notIn_seq
theorem Box.off {H : Hp} {b g c D : Addr} {n : Nat} {o : HO} (x : Box H b g c n) (h1 : D ≠ b) (h2 : D ≠ g) (h3 : D ≠ c) : Box (upd H D o) b g c n := by
  obtain ⟨gs, cs, cur, m, B, hm⟩ := x
  exact ⟨gs, cs, cur, m, ⟨by rw [upd_ne h1.symm]; exact B.hb, by rw [upd_ne h2.symm]; exact B.hg, by rw [upd_ne h3.symm]; exact B.hc, B.bg, B.bc, B.gc, B.m0, B.lg, B.lc⟩, hm⟩
theorem Box.ne {H : Hp} {b g c D : Addr} {n : Nat} (x : Box H b g c n) (h : H D = none) : D ≠ b ∧ D ≠ g ∧ D ≠ c := by
  obtain ⟨gs, cs, cur, m, B, hm⟩ := x
  exact ⟨(ne_of_none B.hb h).symm, (ne_of_none B.hg h).symm, (ne_of_none B.hc h).symm⟩
theorem atI_some {α : Type} {xs : List α} {r : Int} (h0 : 0 ≤ r) (h1 : r < xs.length) : ∃ v, v ∈ xs ∧ atI xs r = some v := by
  obtain ⟨k, rfl⟩ : ∃ k : Nat, r = (k : Int) := ⟨r.toNat, by omega⟩
  have hk : k < xs.length := by omega
  exact ⟨xs[k], List.getElem_mem hk, atI_nat (List.getElem?_eq_getElem hk)⟩
def onesL (cs : List Nat) : List V := ((cs.map fun c => [c]).map SX.S).map V.str
theorem onesL_snoc (cs : List Nat) (c : Nat) : onesL cs ++ [tx [c]] = onesL (cs ++ [c]) := by
  unfold onesL
  rw [List.map_append, List.map_append, List.map_append]
  rfl
theorem flat_ones : ∀ cs : List Nat, (cs.map fun c => [c]).flatten = cs
  | [] => rfl
  | c :: cs => by rw [List.map_cons, List.flatten_cons, flat_ones cs]; rfl
theorem join_nil : ∀ ys : List (List Nat), TL.joinL [] ys = ys.flatten
  | [] => rfl
  | [y] => by show y = y ++ []; rw [List.append_nil]
  | y :: z :: r => by
    show y ++ ([] ++ TL.joinL [] (z :: r)) = y ++ (z :: r).flatten
    rw [join_nil (z :: r), List.nil_append]
theorem join_ones (cs : List Nat) : Txt.join (Str.ofString "") ((cs.map fun c => [c]).map SX.S) = SX.S cs := by
  rw [show Str.ofString "" = SX.S [] by decide +kernel, SX.join_S, join_nil, flat_ones]
theorem fitN {n : Nat} (h : n ≤ 5000) : n ≤ sizeLine := Nat.le_trans h (by decide)
abbrev lts : List Nat := [97, 98, 99, 100, 101, 102, 103, 104, 105, 106, 107, 108, 109, 110, 111, 112, 113, 114, 115, 116, 117, 118, 119, 120, 121, 122]
theorem inV_strs (x : Str) : ∀ ns : List Str, inV (.str x) (ns.map V.str) = decide (x ∈ ns)
  | [] => rfl
  | n :: ns => by
    show ((n == x) || inV (.str x) (ns.map V.str)) = _
    rw [inV_strs x ns, Bool.eq_iff_iff, Bool.or_eq_true, beq_iff_eq, decide_eq_true_eq, decide_eq_true_eq, List.mem_cons]
    exact ⟨fun h => h.imp Eq.symm id, fun h => h.imp Eq.symm id⟩
theorem flat_strs : ∀ ns : List Str, (ns.map V.str).all flatV = true
  | [] => rfl
  | n :: ns => by
    show (flatV (.str n) && (ns.map V.str).all flatV) = true
    rw [flat_strs ns]
    rfl
theorem free_letter {ns : List Str} (h : ns.length ≤ 25) : ∃ c ∈ lts, SX.S [c] ∉ ns := by
  refine Classical.byContradiction fun no => ?_
  have all : ∀ c ∈ lts, SX.S [c] ∈ ns := fun c hc => Classical.byContradiction fun z => no ⟨c, hc, z⟩
  obtain ⟨r, p⟩ := perm_rest (l := lts.map fun c => SX.S [c]) (ks := ns) (by decide +kernel) fun k hk => by
    obtain ⟨c, hc, rfl⟩ := List.mem_map.mp hk
    exact all c hc
  have z := p.length_eq
  rw [List.length_append, List.length_map] at z
  have : lts.length = 26 := rfl
  omega
theorem one_name {c : Nat} (h : c ∈ lts) : nameL [c] = true := by
  have key : ∀ c ∈ lts, nameL [c] = true := by decide +kernel
  exact key c h
def spNames : Sp := fun vs H Q _ => ∃ (b g c : Addr) (n : Nat), vs = [.ref b, .int 6] ∧ Box H b g c n ∧ n + 100 < 1000000 ∧
  ∀ (D : Addr) (ns : List Str) (H' : Hp), ns.length = 6 → ns.Nodup → (∀ x ∈ ns, nameL x.cps.toList = true) → H' D = some (.lst (ns.map V.str)) → H D = none → Box H' b g c (n + 66) → But b g H H' → Q (.ref D) H'
section
variable {P : Program} {w : World} {K : PySem.W.Frag} {mg : Str → Option Value} {base : Heap}
theorem ok_names (T : Bt mg) (GT : Kn P w K mg base CX0 "_law_take" 2 ["_law_box_here", "_law_size"] spTake) (D : Df K mg "_law_names" s_l_names ["_law_box_here", "_law_many"]) :
    Kn P w K mg base CX0 "_law_names" 3 ["_law_box_here", "_law_many"] spNames := by
  obtain ⟨f, fd, F, hm, hb⟩ := D
  obtain ⟨f_l_take, fd_l_take, G_l_take, m_l_take, k_l_take, b_l_take⟩ := GT
  refine ⟨f, fd, F.ok sc_l_names (fun vs H Q E h => ?_) (fun cdv A outer s H vs Q E hr h => ?_), hm, F.kp, hb⟩
  · obtain ⟨b, g, c, n, rfl, _⟩ := h
    rfl
  · obtain ⟨b, g, c, n, rfl, B, hn, q⟩ := h
    refine ⟨_, (pss_cons (ps_set (i := 2) sc_l_names.nd rfl (Or.inr rfl) pe_str)
      (pss_cons (ps_set (i := 3) sc_l_names.nd rfl (Or.inr rfl) (pe_lst pa_nil))
      (pss_cons (ps_for PassesOwn.never rfl (pi_range1 rfl T.n_range (pa_cons (pv 1) pa_nil)) (pg_name (i := 4) sc_l_names.nd rfl (Or.inl rfl))
        (pss_cons (ps_set (i := 5) sc_l_names.nd rfl (Or.inl rfl) (pe_op op_add pe_int (pe_call G_l_take (hr.mono (by omega)) rfl m_l_take k_l_take b_l_take .nil pass0 (pa_cons (pv 0) (pa_cons (pe_ix ix_list (pe_lst (pa_cons pe_int (pa_cons pe_int (pa_cons pe_int pa_nil)))) (pe_call G_l_take (hr.mono (by omega)) rfl m_l_take k_l_take b_l_take .nil pass0 (pa_cons (pv 0) (pa_cons pe_int pa_nil))) (fun _ _ => rfl)) pa_nil)))))
      (C8.pss_cut (ps_set (i := 6) sc_l_names.nd rfl (Or.inl rfl) (pe_bm PySem.F.plainAttrs_str PySem.F.slot_str_join PySem.F.type_str_join mt_join pe_str (pa_cons (pe_lc (own := [("_law_j", 7)]) rfl sc_l_names.nd (pi_range1 rfl T.n_range (pa_cons (pv 5) pa_nil)) (blkOk_by (N := ["_law_box_here", "_law_many", "_law_letters", "_law_found", "_law_k", "_law_size", "_law_name", "_law_j", "_law_one"]) (sc := defScope s_l_names) (by decide +kernel)) (fun _ _ _ _ _ => (pg_name (i := 7) sc_l_names.nd rfl (Or.inl rfl))) (fun _ _ _ _ _ => pts_nil) (fun _ _ _ _ _ => (pe_ix ix_str (pv 2) (pe_call G_l_take (hr.mono (by omega)) rfl m_l_take k_l_take b_l_take .nil pass0 (pa_cons (pv 0) (pa_cons pe_int pa_nil))) (fun _ _ => rfl)))) pa_nil)))
      (C8.pss_cut (ps_if (pt_cmpR op_in_seq (pv 6) (pe_op op_cat (pv 3) (pe_lst (pa_cons pe_str (pa_cons pe_str pa_nil)))) (by rfl)) (pss_one (ps_set (i := 6) sc_l_names.nd rfl (Or.inl rfl) (pe_ix ix_list (pe_lc (own := [("_law_one", 8)]) rfl sc_l_names.nd (pi_str (pv 2)) (blkOk_by (N := ["_law_box_here", "_law_many", "_law_letters", "_law_found", "_law_k", "_law_size", "_law_name", "_law_j", "_law_one"]) (sc := defScope s_l_names) (by decide +kernel)) (fun _ _ _ _ _ => (pg_name (i := 8) sc_l_names.nd rfl (Or.inl rfl))) (fun _ _ _ _ _ => (pts_one (pt_cmpR (op_notInK (K := K) rfl) (pv 8) (pv 3) (by rfl)))) (fun _ _ _ _ _ => (pv 8))) pe_int (fun _ _ => rfl)))) pss_nil)
      (pss_one (ps_expr (pe_bm PySem.F.plainAttrs_list PySem.F.slot_list_append PySem.F.type_list_append mt_append (pv 3) (pa_cons (pv 6) pa_nil))))))))
      (pss_one (ps_ret (pv 3)))))), ?_⟩
    refine ⟨(by show 0 ≤ sizeLine; decide), fun D hD => ?_⟩
    obtain ⟨db, dg, dc⟩ := B.ne hD
    have B0 := B.same (same_new hD (.lst []))
    refine ⟨_, rfl, 6, rfl, by decide, by decide, ?_⟩
    refine for_range (lo := 0) (n := 6) (fun i σ H' => ∃ (ns : List Str) (x4 x5 x6 x7 x8 : Option V), σ = [some (.ref b), some (.int 6), some (.str "abcdefghijklmnopqrstuvwxyz"), some (.ref D), x4, x5, x6, x7, x8] ∧ ns.length = i ∧ ns.Nodup ∧ (∀ x ∈ ns, nameL x.cps.toList = true) ∧ H' D = some (.lst (ns.map V.str)) ∧ Box H' b g c (n + 11 * i) ∧ But b g H H')
      ⟨[], _, _, _, _, _, rfl, rfl, List.nodup_nil, (fun x hx => by cases hx), upd_same, B0, But.of (same_new hD _)⟩ ?_ ?_
    · rintro i σ H1 hi ⟨ns, x4, x5, x6, x7, x8, rfl, hl, nd, nm, hDl, B1, bt1⟩
      refine ⟨_, rfl, ?_⟩
      refine ⟨(by show 3 ≤ sizeLine; decide), fun p3 np3 => ⟨_, rfl, b, g, c, _, 3, rfl, B1.same (same_new np3 _), (by omega), (by decide), (by decide), fun r3 H3 r03 r13 B3 bt3 => ?_⟩⟩
      have hp3 := But.new B1 np3 bt3
      have bu3 := But.after np3 bt3
      obtain ⟨v3, hv3, hat3⟩ := at_pick hp3 r03 r13 rfl
      refine ⟨p3, _, r3, v3, rfl, rfl, SqL.of hp3, hat3, ?_⟩
      have hw : ∃ y : Int, v3 = .int y ∧ 0 < y ∧ y ≤ 8 := by
        simp only [List.mem_cons, List.not_mem_nil, or_false] at hv3
        rcases hv3 with e | e | e
        · exact ⟨_, e, by decide, by decide⟩
        · exact ⟨_, e, by decide, by decide⟩
        · exact ⟨_, e, by decide, by decide⟩
      obtain ⟨y, rfl, y0, y1⟩ := hw
      refine ⟨b, g, c, _, y, rfl, B3, by omega, y0, pow8000' y 4 (by decide) (by show y.natAbs < 16; omega), fun r H4 r0 r1 B4 b4 => ?_⟩
      refine ⟨_, _, rfl, rfl, ?_⟩
      have bt4 : But b g H1 H4 := bu3.trans b4
      have p62 : (2 : Int) ^ 62 = 4611686018427387904 := by decide
      refine ⟨fun σ H' => ∃ (cs : List Nat) (z7 z8 : Option V), σ = [some (.ref b), some (.int 6), some (.str "abcdefghijklmnopqrstuvwxyz"), some (.ref D), some (.int (0 + (i : Int))), some (.int (1 + r)), some (tx cs), z7, z8] ∧ cs ≠ [] ∧ cs.length < 9 ∧ cs.all az = true ∧ Box H' b g c (n + 11 * i + 11) ∧ But b g H1 H', ?_, ?_⟩
      · refine ⟨rfl, _, rfl, 1 + r, rfl, by omega, by omega, fun D5 hD5 => ?_⟩
        obtain ⟨eb, eg, ec⟩ := B4.ne hD5
        refine lc_range (lo := 0) (n := (1 + r).toNat) (fun j H' => ∃ cs : List Nat, cs.length = j ∧ cs.all az = true ∧ H' D5 = some (.lst (onesL cs)) ∧ Box H' b g c (n + 11 * i + 2 + j) ∧ But b g H4 H') ⟨[], rfl, rfl, upd_same, (B4.same (same_new hD5 _)).mono (by omega), But.of (same_new hD5 _)⟩ ?_ ?_
        · rintro j H5 hj ⟨cs, lc, ca, hDl5, B5, b5⟩
          refine ⟨rfl, _, rfl, _, rfl, b, g, c, _, 26, rfl, B5, by omega, by decide, pow8000' 26 5 (by decide) (by decide), fun x H6 x0 x1 B6 b6 => ?_⟩
          obtain ⟨ch, hcm, hch⟩ := atI_some (xs := (Str.ofString "abcdefghijklmnopqrstuvwxyz").cps.toList) x0 (by rw [show (Str.ofString "abcdefghijklmnopqrstuvwxyz").cps.toList.length = 26 by decide +kernel]; exact x1)
          have hD6 := b6 D5 _ hDl5 eb eg
          refine ⟨_, _, ch, rfl, rfl, fitN (by decide +kernel), hch, _, hD6, ?_, cs ++ [ch], by rw [List.length_append, lc]; rfl, ?_, ?_, B6.off eb eg ec, ?_⟩
          · unfold onesL
            rw [List.length_map, List.length_map, List.length_map]
            exact small1000 (by omega)
          · rw [List.all_append, ca, Bool.true_and, List.all_cons, List.all_nil, Bool.and_true]
            exact (show ∀ c ∈ (Str.ofString "abcdefghijklmnopqrstuvwxyz").cps.toList, az c = true by decide +kernel) ch hcm
          · rw [upd_same, ← onesL_snoc]
          · intro a o h h1 h2
            rw [upd_ne (ne_of_none h hD5)]
            exact (b5.trans b6) a o h h1 h2
        · rintro H5 ⟨cs, lc, ca, hDl5, B5, b5⟩
          have hlen : (((cs.map fun c => [c]).map SX.S).map (·.length)).sum + ((cs.map fun c => [c]).map SX.S).length * (Str.ofString "").length ≤ 16777216 := by
            rw [SX.lens, ← List.length_flatten, flat_ones, show (Str.ofString "").length = 0 by decide +kernel, Nat.mul_zero, Nat.add_zero]
            omega
          refine ⟨_, D5, _, rfl, rfl, .inl (SqL.of hDl5), hlen, cs, x7, x8, ?_, ?_, by omega, ca, B5.mono (by omega), bt4.trans b5⟩
          · rw [join_ones]
            rfl
          · intro z
            rw [z] at lc
            have : ([] : List Nat).length = 0 := rfl
            omega
      rintro σ H5 ⟨cs, z7, z8, rfl, c0, c9, ca, B5, b5⟩
      have hD5 := b5 D _ hDl db dg
      refine ⟨fun σ H' => ∃ (x : Str) (z7 z8 : Option V), σ = [some (.ref b), some (.int 6), some (.str "abcdefghijklmnopqrstuvwxyz"), some (.ref D), some (.int (0 + (i : Int))), some (.int (1 + r)), some (.str x), z7, z8] ∧ nameL x.cps.toList = true ∧ x ∉ ns ∧ Same H5 H', ?_, ?_⟩
      · refine ⟨_, rfl, _, rfl, (by show 2 ≤ sizeLine; decide), fun p np => ?_⟩
        have s1 := same_new np (.lst [V.str "sum", V.str "average"])
        refine ⟨D, p, _, _, rfl, rfl, s1 _ _ hD5, upd_same, (by rw [List.length_map]; show ns.length + 2 ≤ sizeLine; exact Nat.le_of_lt (small1000 (by omega))), fun p2 np2 => ?_⟩
        have s2 := s1.trans (same_new np2 (.lst (ns.map V.str ++ [V.str "sum", V.str "average"])))
        refine ⟨p2, (ns ++ [Str.ofString "sum", Str.ofString "average"]).map V.str, rfl, .inl (SqL.of (by rw [upd_same, List.map_append]; rfl)), rfl, flat_strs _, _, rfl, ?_⟩
        have hin := inV_strs (SX.S cs) (ns ++ [Str.ofString "sum", Str.ofString "average"])
        refine ite2 (fun k => ?_) (fun k => ?_)
        · have hD6 := s2 _ _ hD5
          refine ⟨_, rfl, SX.S lts, congrArg V.str letters_S, fun D6 hD6n => ?_⟩
          refine lc_str (l := lts) (fun i H' => Same (upd (upd H5 p (.lst [V.str "sum", V.str "average"])) p2 (.lst (ns.map V.str ++ [V.str "sum", V.str "average"]))) H' ∧ H' D6 = some (.lst (((lts.take i).filter fun c => decide (SX.S [c] ∉ ns)).map fun c => tx [c]))) ⟨same_new hD6n _, upd_same⟩ ?_ ?_
          · rintro i ch H7 hch ⟨s7, hacc⟩
            have hD7 := s7 _ _ hD6
            have hnot := inV_strs (SX.S [ch]) ns
            refine ⟨rfl, _, rfl, _, rfl, D, _, rfl, .inl (SqL.of hD7), rfl, flat_strs ns, _, rfl, ?_⟩
            have eb : (!inV (V.str (SX.S [ch])) (ns.map V.str)) = decide (SX.S [ch] ∉ ns) := by rw [hnot, decide_not]
            refine ite2 (fun m => ?_) (fun m => ?_)
            · have m2 := eb.symm.trans m
              refine ⟨_, rfl, _, hacc, ?_, same_upd s7 hD6n, ?_⟩
              · rw [List.length_map]
                refine Nat.lt_of_le_of_lt (List.length_filter_le _ _) ?_
                rw [List.length_take]
                exact small1000 (Nat.le_trans (Nat.min_le_right _ _) (by decide))
              · rw [upd_same, take_more hch, List.filter_append, List.filter_cons_of_pos (by exact m2), List.filter_nil, List.map_append]
                rfl
            · have m2 := eb.symm.trans (Bool.eq_false_iff.mpr m)
              refine ⟨s7, ?_⟩
              rw [take_more hch, List.filter_append, List.filter_cons_of_neg (by rw [m2]; exact Bool.false_ne_true), List.filter_nil, List.append_nil]
              exact hacc
          · rintro H7 ⟨s7, hacc⟩
            rw [List.take_length] at hacc
            obtain ⟨c1, hc1, hc2⟩ := free_letter (ns := ns) (by omega)
            obtain ⟨d, rest, hfl⟩ : ∃ d rest, lts.filter (fun c => decide (SX.S [c] ∉ ns)) = d :: rest := by
              cases hf : lts.filter (fun c => decide (SX.S [c] ∉ ns)) with
              | nil =>
                have : c1 ∈ lts.filter (fun c => decide (SX.S [c] ∉ ns)) := List.mem_filter.mpr ⟨hc1, decide_eq_true hc2⟩
                rw [hf] at this
                cases this
              | cons d rest => exact ⟨d, rest, rfl⟩
            have hdm : d ∈ lts ∧ decide (SX.S [d] ∉ ns) = true := List.mem_filter.mp (by rw [hfl]; exact List.mem_cons_self ..)
            rw [hfl] at hacc
            refine ⟨D6, _, _, tx [d], rfl, rfl, SqL.of hacc, at_of (j := 0) rfl rfl, SX.S [d], _, _, rfl, ?_, of_decide_eq_true hdm.2, s2.trans s7⟩
            rw [show (SX.S [d]).cps.toList = [d] by simp [SX.S]]
            exact one_name hdm.1
        · have k2 := of_decide_eq_false (hin.symm.trans (Bool.eq_false_iff.mpr k))
          refine ⟨SX.S cs, _, _, rfl, ?_, fun z => k2 (List.mem_append_left _ z), s2⟩
          rw [show (SX.S cs).cps.toList = cs by simp [SX.S]]
          have n1 : cs ≠ [115, 117, 109] := fun z => k2 (List.mem_append_right _ (by rw [z]; exact List.mem_cons.mpr (.inl (by decide +kernel))))
          have n2 : cs ≠ [97, 118, 101, 114, 97, 103, 101] := fun z => k2 (List.mem_append_right _ (by rw [z]; exact List.mem_cons_of_mem _ (List.mem_cons.mpr (.inl (by decide +kernel)))))
          unfold nameL
          rw [decide_eq_true c0, decide_eq_true c9, ca, decide_eq_true n1, decide_eq_true n2]
          rfl
      rintro σ H6 ⟨x, z7, z8, rfl, nx, xin, s56⟩
      have hD6 := s56 _ _ hD5
      have B6 := B5.same s56
      refine ⟨_, rfl, .inl ⟨rfl, _, SqL.of hD6⟩, _, rfl, D, _, _, rfl, rfl, hD6, (by rw [List.length_map]; exact small1000 (by omega)), ns ++ [x], _, _, _, _, _, rfl, by rw [List.length_append, hl]; rfl, ?_, ?_, ?_, (B6.off db dg dc).mono (by omega), ?_⟩
      · rw [List.nodup_append]
        refine ⟨nd, List.pairwise_singleton _ _, fun u hu v hv e => ?_⟩
        rw [List.mem_singleton.mp hv] at e
        exact xin (by rw [← e]; exact hu)
      · intro u hu
        rcases List.mem_append.mp hu with hu | hu
        · exact nm u hu
        · rw [List.mem_singleton.mp hu]
          exact nx
      · rw [upd_same, List.map_append]
        rfl
      · intro a o h h1 h2
        rw [upd_ne (ne_of_none h hD)]
        exact s56 _ _ (b5 _ _ (bt1 a o h h1 h2) h1 h2)
    · rintro σ H1 ⟨ns, x4, x5, x6, x7, x8, rfl, hl, nd, nm, hDl, B1, bt1⟩
      refine ⟨_, rfl, ?_⟩
      exact q D ns H1 hl nd nm hDl hD (B1.mono (by omega)) bt1
end

theorem peK_bm {X : Cx} {K : PySem.W.Frag} {e : Expr} {T : String} {r : V → List V → Hp → VK → Prop} {to : TE} {t : TA} (h : X.K = K) (p : PE X e (tBM X.K T r to t)) : PE X e (tBM K T r to t) := by
  subst h
  exact p
theorem eraseMap : ∀ (l : List Str) (k : Nat), (l.map V.str).eraseIdx k = (l.eraseIdx k).map V.str
  | [], k => by simp
  | x :: l, 0 => by simp
  | x :: l, k + 1 => by simp [eraseMap l k]
def spShufV : Sp := fun vs H Q _ => ∃ (b g c t : Addr) (n : Nat) (xs : List V), vs = [.ref b, .ref t] ∧ Box H b g c n ∧ n + 20 < 1000000 ∧ H t = some (.lst xs) ∧ xs.length ≤ 6 ∧
  ∀ (D : Addr) (ys : List V) (H' : Hp), ys.Perm xs → H' D = some (.lst ys) → H D = none → Box H' b g c (n + 6) → But b g H H' → Q (.ref D) H'
def spShuf : Sp := fun vs H Q _ => ∃ (b g c t : Addr) (n : Nat) (ns : List Str), vs = [.ref b, .ref t] ∧ Box H b g c n ∧ n + 20 < 1000000 ∧ H t = some (.lst (ns.map V.str)) ∧ ns.length ≤ 6 ∧
  ∀ (D : Addr) (ys : List Str) (H' : Hp), ys.Perm ns → H' D = some (.lst (ys.map V.str)) → H D = none → Box H' b g c (n + 6) → But b g H H' → Q (.ref D) H'
theorem perm_back {α β : Type} {f : α → β} {ys l : List β} (h : ys.Perm l) : ∀ ns : List α, l = ns.map f → ∃ zs : List α, ys = zs.map f ∧ zs.Perm ns := by
  induction h with
  | nil =>
    intro ns e
    cases ns with
    | nil => exact ⟨[], rfl, .nil⟩
    | cons n ns => cases e
  | cons x h ih =>
    intro ns e
    cases ns with
    | nil => cases e
    | cons n ns =>
      obtain ⟨rfl, e2⟩ := List.cons.inj e
      obtain ⟨zs, rfl, p⟩ := ih ns e2
      exact ⟨n :: zs, rfl, .cons n p⟩
  | swap x y l =>
    intro ns e
    match ns, e with
    | n :: m :: ns, e =>
      obtain ⟨rfl, e2⟩ := List.cons.inj e
      obtain ⟨rfl, rfl⟩ := List.cons.inj e2
      exact ⟨m :: n :: ns, rfl, .swap n m ns⟩
  | trans h1 h2 ih1 ih2 =>
    intro ns e
    obtain ⟨zs, e2, p⟩ := ih2 ns e
    obtain ⟨ws, e3, p2⟩ := ih1 zs e2
    exact ⟨ws, e3, p2.trans p⟩
theorem call_lenK {X : Cx} {K : PySem.W.Frag} (h : X.K = K) : CallR X (.builtin "len") (fun xs H Q => ∃ p ys, xs = [.ref p] ∧ (SqL K H p ys ∨ SqT K H p ys) ∧ Q (.int (ys.length : Nat)) H) := by
  subst h
  exact call_len_seq
theorem ixSeq {n : Nat} {r : Nat} (h : r < n) : seqIndex? (r : Int) n = some r := by
  have e : ixN n (r : Int) = some r := by
    unfold ixN
    rw [if_pos (by omega), if_pos (by omega)]
    congr 1
  exact (ixN_seq e).1
section
variable {P : Program} {w : World} {K : PySem.W.Frag} {mg : Str → Option Value} {base : Heap}
theorem ok_shuffledV (T : Bt mg) (GT : Kn P w K mg base CX0 "_law_take" 2 ["_law_box_here", "_law_size"] spTake) (D : Df K mg "_law_shuffled" s_l_shuffled ["_law_box_here", "_law_things"]) :
    Kn P w K mg base CX0 "_law_shuffled" 3 ["_law_box_here", "_law_things"] spShufV := by
  obtain ⟨f, fd, F, hm, hb⟩ := D
  obtain ⟨f_l_take, fd_l_take, G_l_take, m_l_take, k_l_take, b_l_take⟩ := GT
  refine ⟨f, fd, F.ok sc_l_shuffled (fun vs H Q E h => ?_) (fun cdv A outer s H vs Q E hr h => ?_), hm, F.kp, hb⟩
  · obtain ⟨b, g, c, t, n, xs, rfl, _⟩ := h
    rfl
  · obtain ⟨b, g, c, t, n, xs, rfl, B, hn, ht, hl, q⟩ := h
    refine ⟨_, (pss_cons (ps_set (i := 2) sc_l_shuffled.nd rfl (Or.inr rfl) (pe_callTy call_list_of (by rfl) T.n_list (by decide +kernel) (pa_cons (pv 1) pa_nil)))
      (pss_one (ps_ret (pe_lc (own := [("_law_k", 3)]) rfl sc_l_shuffled.nd (pi_range1 rfl T.n_range (pa_cons (pe_callB (call_lenK (K := K) rfl) (by rfl) T.n_len (by decide +kernel) (pa_cons (pv 2) pa_nil)) pa_nil)) (blkOk_by (N := ["_law_box_here", "_law_things", "_law_pile", "_law_k"]) (sc := defScope s_l_shuffled) (by decide +kernel)) (fun _ _ _ _ _ => (pg_name (i := 3) sc_l_shuffled.nd rfl (Or.inl rfl))) (fun _ _ _ _ _ => pts_nil) (fun _ _ _ _ _ => (peK_bm (K := K) rfl (pe_bm PySem.F.plainAttrs_list PySem.F.slot_list_pop PySem.F.type_list_pop mt_popAt (pv 2) (pa_cons (pe_call G_l_take (hr.mono (by omega)) rfl m_l_take k_l_take b_l_take .nil pass0 (pa_cons (pv 0) (pa_cons (pe_callB (call_lenK (K := K) rfl) (by rfl) T.n_len (by decide +kernel) (pa_cons (pv 2) pa_nil)) pa_nil))) pa_nil)))))))), ?_⟩
    have p62 : (2 : Int) ^ 62 = 4611686018427387904 := by decide
    refine ⟨_, rfl, t, _, rfl, .inl (SqL.of ht), fun L hL => ?_⟩
    have s1 := same_new hL (.lst (xs))
    have B1 := B.same s1
    obtain ⟨lb, lg, lc⟩ := B.ne hL
    refine ⟨_, rfl, L, _, rfl, .inl (SqL.of upd_same), (xs.length : Int), rfl, by omega, by omega, fun D hD => ?_⟩
    have hLD : D ≠ L := fun e => by
      rw [e] at hD
      rw [upd_same] at hD
      cases hD
    obtain ⟨eb, eg, ec⟩ := B1.ne hD
    have nD : H D = none := by
      rw [upd_ne hLD] at hD
      exact hD
    refine lc_range (lo := 0) (n := ((xs.length : Int)).toNat) (fun j H' => ∃ done left : List V, done.length = j ∧ (done ++ left).Perm xs ∧ H' D = some (.lst (done)) ∧ H' L = some (.lst (left)) ∧ Box H' b g c (n + j) ∧ But b g H H') ⟨[], xs, rfl, List.Perm.refl _, upd_same, by rw [upd_ne hLD.symm]; exact upd_same, B1.off eb eg ec, ?_⟩ ?_ ?_
    · intro a o h _ _
      rw [upd_ne (ne_of_none h nD), upd_ne (ne_of_none h hL)]
      exact h
    · rintro j H2 hj ⟨done, left, ld, pm, hDd, hLl, B2, b2⟩
      have ll : left.length = xs.length - j := by
        have z := pm.length_eq
        rw [List.length_append, ld] at z
        omega
      have hjn : j < xs.length := by omega
      have lm : ((left).length : Int) = (left.length : Int) := rfl
      refine ⟨rfl, _, rfl, .inl ⟨rfl, _, SqL.of hLl⟩, _, rfl, _, rfl, L, _, rfl, .inl (SqL.of hLl), b, g, c, _, ((left).length : Int), rfl, B2, by omega, by omega, pow8000' _ 4 (by decide) (by rw [lm]; show ((left.length : Nat) : Int).natAbs < 16; omega), fun r H3 r0 r1 B3 b3 => ?_⟩
      obtain ⟨k, rfl⟩ : ∃ k : Nat, r = (k : Int) := ⟨r.toNat, by omega⟩
      have hk : k < left.length := by omega
      have hL3 := b3 L _ hLl lb lg
      have hD3 := b3 D _ hDd eb eg
      have p63 : (2 : Int) ^ 63 = 9223372036854775808 := by decide
      refine ⟨L, _, (k : Int), k, left[k], rfl, rfl, hL3, by omega, by omega, ixSeq hk, List.getElem?_eq_getElem hk, ?_⟩
      refine ⟨_, by rw [upd_ne hLD]; exact hD3, small1000 (by omega), done ++ [left[k]], left.eraseIdx k, by rw [List.length_append, ld]; rfl, ?_, ?_, ?_, ?_, ?_⟩
      · refine List.Perm.trans ?_ pm
        rw [List.append_assoc]
        exact List.Perm.append_left done (erase_perm left k left[k] (List.getElem?_eq_getElem hk))
      · exact upd_same
      · rw [upd_ne hLD.symm, upd_same]
      · exact (B3.off lb lg lc).off eb eg ec
      · intro a o h h1 h2
        rw [upd_ne (ne_of_none h nD), upd_ne (ne_of_none h hL)]
        exact b3 a o (b2 a o h h1 h2) h1 h2
    · rintro H2 ⟨done, left, ld, pm, hDd, hLl, B2, b2⟩
      have ll : left = [] := by
        have z := pm.length_eq
        rw [List.length_append, ld] at z
        exact List.length_eq_zero_iff.mp (by omega)
      rw [ll, List.append_nil] at pm
      exact q D done H2 pm hDd nD (B2.mono (by omega)) b2
theorem ok_shuffled (T : Bt mg) (GT : Kn P w K mg base CX0 "_law_take" 2 ["_law_box_here", "_law_size"] spTake) (D : Df K mg "_law_shuffled" s_l_shuffled ["_law_box_here", "_law_things"]) :
    Kn P w K mg base CX0 "_law_shuffled" 3 ["_law_box_here", "_law_things"] spShuf := by
  obtain ⟨f, fd, F, a, b, c⟩ := ok_shuffledV T GT D
  refine ⟨f, fd, F.imp fun vs H Q E h => ?_, a, b, c⟩
  obtain ⟨b, g, c, t, n, ns, rfl, B, hn, ht, hl, q⟩ := h
  refine ⟨b, g, c, t, n, ns.map V.str, rfl, B, hn, ht, by rw [List.length_map]; exact hl, fun D ys H' pm hD nD B' b' => ?_⟩
  obtain ⟨zs, rfl, p⟩ := perm_back pm ns rfl
  exact q D zs H' p hD nD B' b'
end

theorem mk_off {H : Hp} {a b g : Addr} {o : HO} (h : H a = some o) (n1 : a ≠ b) (n2 : a ≠ g) : mk b g H a = some o := by
  unfold mk
  rw [if_neg (fun z => z.elim n1 n2)]
  exact h
/-- a heap without the thing at D -/
def hide (D : Addr) (H : Hp) : Hp := fun a => if a = D then none else H a
theorem hide_sub (D : Addr) (H : Hp) : Same (hide D H) H := fun a o h => by
  unfold hide at h
  split at h
  · cases h
  · exact h
theorem hide_at {D a : Addr} {H : Hp} {o : HO} (h : H a = some o) (n : a ≠ D) : hide D H a = some o := by
  unfold hide
  rw [if_neg n]
  exact h
theorem hide_upd (D : Addr) (H : Hp) (o : HO) : hide D (upd H D o) = hide D H := funext fun a => by
  unfold hide
  by_cases h : a = D
  · rw [if_pos h, if_pos h]
  · rw [if_neg h, if_neg h, upd_ne h]
theorem hide_same {D : Addr} {H H' : Hp} (s : Same H H') (h : H D = none) : Same H (hide D H') := fun a o e => hide_at (s a o e) (fun z => by rw [z, h] at e; cases e)
theorem hide_mono {D : Addr} {H H' : Hp} (s : Same H H') : Same (hide D H) (hide D H') := fun a o e => by
  unfold hide at e
  split at e
  · cases e
  · rename_i n
    exact hide_at (s a o e) n
theorem dps_snoc {K : PySem.W.Frag} {H : Hp} : ∀ {vs : List V} {ds : List PyData} {v : V} {d : PyData}, DpAll K H vs ds → Dp K H v d → DpAll K H (vs ++ [v]) (ds ++ [d])
  | _, _, _, _, .nil, h => .cons h .nil
  | _, _, _, _, .cons a t, h => .cons a (dps_snoc t h)

def spFormF (K : PySem.W.Frag) : Sp := fun vs H Q _ => ∃ (d : Addr) (vc : V) (kvs : List (Key × V)) (ks : List Str) (zf : Str → Int × Int) (c : Int × Int), vs = [.ref d, vc] ∧ H d = some (.dK kvs) ∧ kvs.map (·.1) = ks.map Sum.inr ∧ ks.length ≤ 6 ∧
  (∀ k ∈ ks, ∃ v, valV kvs (Sum.inr k) = some v ∧ Dp K H v (numD (zf k))) ∧ Dp K H vc (numD c) ∧
  ∀ (r : V) (ys : List Str) (H' : Hp), Same H H' → ys.Perm ks → PyProof.Rows.sortedS ys = true → FormAt K H' r ((ys.filter fun k => decide ((zf k).1 ≠ 0)).map fun k => (k, zf k)) c → Q r H'
section
variable {P : Program} {w : World} {K : PySem.W.Frag} {mg : Str → Option Value} {base : Heap}
theorem ok_lform (T : Bt mg) (Tt : Ut4 K mg) (D : Df K mg "_law_form" s_l_form ["_law_terms", "_law_constant"]) : Kn P w K mg base CX0 "_law_form" 1 ["_law_terms", "_law_constant"] (spFormF K) := by
  obtain ⟨f, fd, F, hm, hb⟩ := D
  refine ⟨f, fd, F.ok sc_l_form (fun vs H Q E h => ?_) (fun cdv A outer s H vs Q E hr h => ?_), hm, F.kp, hb⟩
  · obtain ⟨d, vc, kvs, ks, zf, c, rfl, _⟩ := h
    rfl
  · obtain ⟨d, vc, kvs, ks, zf, c, rfl, hd, hks, hl, hval, hc, q⟩ := h
    refine ⟨_, (pss_cons (ps_setLc (i := 2) (own := [("_law_name", 3)]) rfl sc_l_form.nd rfl rfl (sw_true rfl rfl rfl (by decide +kernel)) (pi_list (pe_callB (call_sortedD (by rfl)) (by rfl) Tt.n_sorted (by decide +kernel) (pa_cons (pv 0) pa_nil))) (blkOk_by (N := ["_law_terms", "_law_constant", "_law_some", "_law_name"]) (sc := defScope s_l_form) (by decide +kernel)) (fun _ _ _ _ _ => (pg_name (i := 3) sc_l_form.nd rfl (Or.inl rfl))) (fun _ _ _ _ _ => (pts_one (pt_cmpR op_ne (pe_ix (ix_tupK (K := K) rfl) (pe_dget (Nat.lt_of_le_of_lt (Nat.add_le_add_left (by decide) _) hr.units) (pv 0) (pv 3) (fun _ _ => rfl)) pe_int (fun _ _ => rfl)) pe_int (nomark _)))) (fun _ _ _ _ _ => (pe_tup (pa_cons (pv 3) (pa_cons (pe_dget (Nat.lt_of_le_of_lt (Nat.add_le_add_left (by decide) _) hr.units) (pv 0) (pv 3) (fun _ _ => rfl)) pa_nil)))))
      (pss_one (ps_ret (pe_tup (pa_cons (pe_callTy (call_tupF (K := K) rfl) (by rfl) T.n_tuple (by decide +kernel) (pa_cons (pv 2) pa_nil)) (pa_cons (pv 1) pa_nil)))))), ?_⟩
    refine ⟨_, rfl, d, kvs, ks, rfl, .inl hd, hks, by omega, fun ys p pm so np => ?_⟩
    have s1 := same_new np (.lst (ys.map V.str))
    have hd1 := s1 _ _ hd
    refine ⟨p, rfl, ⟨_, SqL.of upd_same⟩, fun D hD => ?_⟩
    have nD : H D = none := s1.free hD
    refine lc_list (K := K) (a := p) (xs := ys.map V.str) (fun i H' => Same (upd H p (.lst (ys.map V.str))) H' ∧ ∃ rs : List V, rs.length ≤ i ∧ H' D = some (.lst rs) ∧ DpAll K (hide D H') rs (((ys.take i).filter fun k => decide ((zf k).1 ≠ 0)).map fun k => termN k (zf k))) ⟨same_new hD _, [], Nat.le_refl _, upd_same, .nil⟩ (fun i H' _ h => SqL.of (h.1 _ _ upd_same)) ?_ ?_
    · rintro i x H2 hx ⟨s2, rs, lr, hrs, hall⟩
      rw [List.getElem?_map] at hx
      obtain ⟨y, hy, rfl⟩ : ∃ y, ys[i]? = some y ∧ V.str y = x := by
        cases z : ys[i]? with
        | none => rw [z] at hx; cases hx
        | some y => rw [z] at hx; exact ⟨y, rfl, Option.some.inj hx⟩
      have hlt := get_lt hy
      have ly : ys.length ≤ 6 := by rw [pm.length_eq]; exact hl
      obtain ⟨v, hv, hvd⟩ := hval y (pm.mem_iff.mp (List.mem_of_getElem? hy))
      have s12 := s1.trans s2
      have hd2 := s12 _ _ hd
      have hvd2 := dp_same s12 _ _ hvd
      obtain ⟨pr, rfl, hpr⟩ := dp_rat_inv hvd2
      have dg : ∀ H', Same H2 H' → DGet H' d (.str y) (some (.ref pr)) := fun H' sx => .inl ⟨kvs, Sum.inr y, .inl (sx _ _ hd2), rfl, hv.symm⟩
      refine ⟨rfl, _, rfl, _, rfl, d, .ref pr, rfl, dg _ (Same.refl _), pr, _, _, .int (zf y).1, rfl, rfl, hpr, rfl, rfl, _, rfl, ?_⟩
      have eb : (!decide (V.int (zf y).1 = V.int 0)) = decide ((zf y).1 ≠ 0) := by
        rw [Bool.eq_iff_iff, Bool.not_eq_true', decide_eq_false_iff_not, decide_eq_true_eq]
        exact ⟨fun h e => h (by rw [e]), fun h e => h (by injection e)⟩
      refine ite2 (fun k => ?_) (fun k => ?_)
      · have k2 := eb.symm.trans k
        refine ⟨_, rfl, _, rfl, _, rfl, d, .ref pr, rfl, dg _ (Same.refl _), (by show 2 ≤ sizeLine; decide), fun p8 np8 => ?_⟩
        have s8 := same_new np8 (.tup [.str y, .ref pr])
        refine ⟨rs, s8 _ _ hrs, small1000 (by omega), same_upd (s2.trans s8) hD, rs ++ [.ref p8], by rw [List.length_append]; show rs.length + 1 ≤ i + 1; omega, upd_same, ?_⟩
        rw [take_more hy, List.filter_append, List.filter_cons_of_pos (by exact k2), List.filter_nil, List.map_append, hide_upd]
        refine dps_snoc (dps_same (hide_mono s8) _ _ hall) (.tup (SqT.of (hide_at upd_same fun e => ?_)) (.cons (.str y) (.cons ?_ .nil)))
        · rw [e, hrs] at np8
          cases np8
        · exact dp_same (hide_same (s1.trans (s2.trans s8)) nD) _ _ hvd
      · have k2 := eb.symm.trans (Bool.eq_false_iff.mpr k)
        refine ⟨s2, rs, by omega, hrs, ?_⟩
        rw [take_more hy, List.filter_append, List.filter_cons_of_neg (by rw [k2]; exact Bool.false_ne_true), List.filter_nil, List.append_nil]
        exact hall
    · rintro H2 ⟨s2, rs, lr, hrs, hall⟩
      have ll : (ys.map V.str).length = ys.length := List.length_map _
      rw [ll, List.take_length] at hall
      have s12 := s1.trans s2
      refine ⟨_, rfl, D, rs, rfl, SqL.of hrs, fun p3 o3 np3 od3 => ?_⟩
      have s3 := same_new np3 (.frz o3 (.tup rs))
      refine ⟨_, rfl, (by show 2 ≤ sizeLine; decide), fun p4 np4 => ?_⟩
      have s4 := same_new np4 (.tup [.ref p3, vc])
      refine q _ ys _ (s12.trans (s3.trans s4)) pm so ⟨p4, p3, rs, vc, rfl, SqT.of upd_same, dp_same (s12.trans (s3.trans s4)) _ _ hc, ⟨o3, s4 _ _ upd_same, od3⟩, ?_⟩
      rw [List.map_map]
      exact dps_same ((hide_sub D H2).trans (s3.trans s4)) _ _ hall
/-- what is known of a drawn form -/
structure GoodF (k : Nat) (ts : List (Str × (Int × Int))) (c : Int × Int) : Prop where
  terms : ∀ t ∈ ts, nameL t.1.cps.toList = true ∧ Red t.2 ∧ t.2.1 ≠ 0 ∧ Sz k t.2
  order : inOrder (ts.map (·.1)) = true
  const : Red c ∧ Sz k c
  few : ts.length ≤ 6
theorem cut_texts (ys : List Str) (lo hi : Option Int) : ∃ ms : List Str, cutV (ys.map V.str) lo hi = ms.map V.str ∧ ms.Sublist ys := by
  unfold cutV
  rw [← List.map_drop, ← List.map_take]
  exact ⟨_, rfl, (List.take_sublist _ _).trans (List.drop_sublist _ _)⟩
mutual
def noList : PyData → Bool
  | .list _ => false
  | .tuple ds => noLists ds
  | _ => true
def noLists : List PyData → Bool
  | [] => true
  | d :: ds => noList d && noLists ds
end
mutual
theorem dp_mk {K : PySem.W.Frag} {H : Hp} {b g c : Addr} {n : Nat} (B : Box H b g c n) : ∀ (d : PyData) (v : V), noList d = true → Dp K H v d → Dp K (mk b g H) v d
  | .none, _, _, h => by cases h; exact .non
  | .bool b, _, _, h => by cases h; exact .bl b
  | .int i, _, _, h => by cases h; exact .int i
  | .str x, _, _, h => by cases h; exact .str x
  | .list _, _, n, _ => by cases n
  | .tuple ds, _, n, h => by
    cases h with
    | tup hs ha =>
      refine .tup ?_ (dps_mk B ds _ n ha)
      rcases hs with (h | ⟨o, h⟩) | h
      · exact .inl (.inl (mk_tup B h))
      · refine .inl (.inr ⟨o, ?_⟩)
        obtain ⟨gs, cs, cur, m, B, _⟩ := B
        unfold mk
        rw [if_neg]
        · exact h
        · rintro (z | z)
          · rw [z, B.hb] at h
            cases h
          · rw [z, B.hg] at h
            cases h
      · exact .inr h
  | .dict _, _, _, h => by cases h
theorem dps_mk {K : PySem.W.Frag} {H : Hp} {b g c : Addr} {n : Nat} (B : Box H b g c n) : ∀ (ds : List PyData) (vs : List V), noLists ds = true → DpAll K H vs ds → DpAll K (mk b g H) vs ds
  | [], _, _, h => by cases h; exact .nil
  | d :: ds, _, n, h => by
    have z := Bool.and_eq_true_iff.mp (show (noList d && noLists ds) = true from n)
    cases h with
    | cons h1 h2 => exact .cons (dp_mk B d _ z.1 h1) (dps_mk B ds _ z.2 h2)
end
theorem seqT_mk {K : PySem.W.Frag} {H : Hp} {b g c a : Addr} {n : Nat} {xs : List V} (B : Box H b g c n) (h : SqT K H a xs) : SqT K (mk b g H) a xs := by
  rcases h with (h | ⟨o, h⟩) | h
  · exact .inl (.inl (mk_tup B h))
  · refine .inl (.inr ⟨o, ?_⟩)
    obtain ⟨gs, cs, cur, m, B, _⟩ := B
    refine mk_off h (fun z => ?_) fun z => ?_
    · rw [z, B.hb] at h
      cases h
    · rw [z, B.hg] at h
      cases h
  · exact .inr h
theorem ndT_mk {H : Hp} {b g c a : Addr} {n : Nat} {xs : List V} (B : Box H b g c n) (h : NdT H a xs) : NdT (mk b g H) a xs := by
  obtain ⟨o, h, d⟩ := h
  obtain ⟨gs, cs, cur, m, B, _⟩ := B
  refine ⟨o, mk_off h (fun z => ?_) (fun z => ?_), d⟩
  · rw [z, B.hb] at h
    cases h
  · rw [z, B.hg] at h
    cases h
theorem noList_formN (ts : List (Str × (Int × Int))) (c : Int × Int) : noList (formN ts c) = true := by
  have key : ∀ ts : List (Str × (Int × Int)), noLists (ts.map fun t => termN t.1 t.2) = true := by
    intro ts
    induction ts with
    | nil => rfl
    | cons t ts ih => show (true && noLists _) = true; rw [ih]; rfl
  show (noLists (ts.map fun t => termN t.1 t.2) && (true && true)) = true
  rw [key ts]
  rfl
theorem form_mk {K : PySem.W.Frag} {H : Hp} {b g c : Addr} {n : Nat} {v : V} {ts : List (Str × (Int × Int))} {z : Int × Int} (B : Box H b g c n) (h : FormAt K H v ts z) : FormAt K (mk b g H) v ts z := by
  obtain ⟨a, p, xs, vc, rfl, h1, h2, h3, h4⟩ := h
  have key : ∀ ts : List (Str × (Int × Int)), noLists (ts.map fun t => termN t.1 t.2) = true := by
    intro ts
    induction ts with
    | nil => rfl
    | cons t ts ih => show (true && noLists _) = true; rw [ih]; rfl
  refine ⟨a, p, xs, vc, rfl, seqT_mk B h1, dp_mk B _ _ (show (true && (true && true)) = true from rfl) h2, ndT_mk B h3, dps_mk B _ _ (key ts) h4⟩
def spDrawnF (K : PySem.W.Frag) (k : Nat) : Sp := fun vs H Q _ => ∃ (b g c t : Addr) (n : Nat) (ns : List Str), vs = [.ref b, .ref t] ∧ Box H b g c n ∧ n + 100 < 1000000 ∧ H t = some (.lst (ns.map V.str)) ∧ t ≠ b ∧ t ≠ g ∧ ns.length ≤ 6 ∧ ns.Nodup ∧ (∀ x ∈ ns, nameL x.cps.toList = true) ∧
  ∀ (r : V) (ts : List (Str × (Int × Int))) (z : Int × Int) (H' : Hp), GoodF k ts z → (∀ t ∈ ts, t.1 ∈ ns) → FormAt K (mk b g H') r ts z → Box H' b g c (n + 60) → But b g H H' → Q r H'
theorem valV_end {kvs : List (Key × V)} {k : Key} {v : V} (h : valV kvs k = none) : ∀ j, valV (kvs ++ [(k, v)]) j = if j = k then some v else valV kvs j := by
  intro j
  unfold valV at h ⊢
  rw [List.find?_append]
  by_cases e : j = k
  · subst e
    rw [if_pos rfl]
    cases hf : kvs.find? (fun kv => decide (kv.1 = j)) with
    | none => simp
    | some x => rw [hf] at h; cases h
  · rw [if_neg e]
    cases hf : kvs.find? (fun kv => decide (kv.1 = j)) with
    | none => simp [Ne.symm e]
    | some x => simp
theorem valV_keys {kvs : List (Key × V)} {ks : List Str} (h : kvs.map (·.1) = ks.map Sum.inr) {y : Str} (n : y ∉ ks) : valV kvs (Sum.inr y) = none := by
  unfold valV
  have : kvs.find? (fun kv => decide (kv.1 = Sum.inr y)) = none := by
    rw [List.find?_eq_none]
    intro kv hkv
    rw [decide_eq_true_eq]
    intro e
    have m : kv.1 ∈ ks.map Sum.inr := by rw [← h]; exact List.mem_map.mpr ⟨kv, hkv, rfl⟩
    rw [e] at m
    obtain ⟨x, hx, ex⟩ := List.mem_map.mp m
    injection ex with ex
    exact n (by rw [← ex]; exact hx)
  rw [this]
  rfl
section
variable {P : Program} {w : World} {K : PySem.W.Frag} {mg : Str → Option Value} {base : Heap}
theorem ok_drawn {sz_ : Nat} (z1 : 1 ≤ sz_) (T : Bt mg) (GT : Kn P w K mg base CX0 "_law_take" 2 ["_law_box_here", "_law_size"] spTake) (GS : Kn P w K mg base CX0 "_law_shuffled" 3 ["_law_box_here", "_law_things"] spShuf) (GN : Kn P w K mg base CX0 "_law_number" 3 ["_law_box_here"] (spNumK sz_ 6))
    (GF : Kn P w K mg base CX0 "_law_form" 1 ["_law_terms", "_law_constant"] (spFormF K)) (D : Df K mg "_law_drawn_form" s_l_drawn_form ["_law_box_here", "_law_names_here"]) :
    Kn P w K mg base CX0 "_law_drawn_form" 4 ["_law_box_here", "_law_names_here"] (spDrawnF K sz_) := by
  obtain ⟨f, fd, F, hm, hb⟩ := D
  obtain ⟨f_l_take, fd_l_take, G_l_take, m_l_take, k_l_take, b_l_take⟩ := GT
  obtain ⟨f_l_shuffled, fd_l_shuffled, G_l_shuffled, m_l_shuffled, k_l_shuffled, b_l_shuffled⟩ := GS
  obtain ⟨f_l_number, fd_l_number, G_l_number, m_l_number, k_l_number, b_l_number⟩ := GN
  obtain ⟨f_l_form, fd_l_form, G_l_form, m_l_form, k_l_form, b_l_form⟩ := GF
  refine ⟨f, fd, F.ok sc_l_drawn_form (fun vs H Q E h => ?_) (fun cdv A outer s H vs Q E hr h => ?_), hm, F.kp, hb⟩
  · obtain ⟨b, g, c, t, n, ns, rfl, _⟩ := h
    rfl
  · obtain ⟨b, g, c, t, n, ns, rfl, B, hn, ht, tb, tg, hl, nd, nm, q⟩ := h
    refine ⟨_, (pss_cons (ps_set (i := 2) sc_l_drawn_form.nd rfl (Or.inl rfl) pe_dnewK)
      (pss_cons (ps_for PassesOwn.never rfl (pi_list (pe_slice sl_list (pe_call G_l_shuffled (hr.mono (by omega)) rfl m_l_shuffled k_l_shuffled b_l_shuffled .nil pass0 (pa_cons (pv 0) (pa_cons (pv 1) pa_nil))) po_none (po_some (pe_call G_l_take (hr.mono (by omega)) rfl m_l_take k_l_take b_l_take .nil pass0 (pa_cons (pv 0) (pa_cons (pe_op op_add (pe_callB call_len_seq (by rfl) T.n_len (by decide +kernel) (pa_cons (pv 1) pa_nil)) pe_int) pa_nil)))))) (pg_name (i := 3) sc_l_drawn_form.nd rfl (Or.inl rfl))
        (pss_one (ps_asg (pe_call G_l_number (hr.mono (by omega)) rfl m_l_number k_l_number b_l_number .nil pass0 (pa_cons (pv 0) pa_nil)) (pg_sub (pv 2) (pv 3) (set_dict (Nat.lt_of_le_of_lt (Nat.add_le_add_left (by decide) _) hr.units))))))
      (pss_one (ps_ret (pe_call G_l_form (hr.mono (by omega)) rfl m_l_form k_l_form b_l_form .nil pass0 (pa_cons (pv 2) (pa_cons (pe_ix ix_list (pe_lst (pa_cons (pe_call G_l_number (hr.mono (by omega)) rfl m_l_number k_l_number b_l_number .nil pass0 (pa_cons (pv 0) pa_nil)) (pa_cons (pe_tup (pa_cons pe_int (pa_cons pe_int pa_nil))) pa_nil))) (pe_call G_l_take (hr.mono (by omega)) rfl m_l_take k_l_take b_l_take .nil pass0 (pa_cons (pv 0) (pa_cons pe_int pa_nil))) (fun _ _ => rfl)) pa_nil))))))), ?_⟩
    intro d hd
    have s0 := same_new hd (.dK [])
    have B0 := B.same s0
    obtain ⟨db, dg, dc⟩ := B.ne hd
    refine ⟨_, rfl, _, rfl, b, g, c, t, _, ns, rfl, B0, by omega, s0 _ _ ht, hl, fun L ys H1 pm hL nL B1 b1 => ?_⟩
    have ht1 := b1 t _ (s0 _ _ ht) tb tg
    have hd1 := b1 d _ upd_same db dg
    refine ⟨_, rfl, _, rfl, t, _, rfl, .inl (SqL.of ht1), _, _, rfl, rfl, b, g, c, _, ((ns.map V.str).length : Int) + 1, rfl, B1, by omega, by omega, pow8000' _ 4 (by decide) (by rw [List.length_map]; show ((ns.length : Int) + 1).natAbs < 16; omega), fun r H2 r0 r1 B2 b2 => ?_⟩
    obtain ⟨lb, lg, _⟩ := B0.ne nL
    have hL2 := b2 L _ hL lb lg
    have hd2 := b2 d _ hd1 db dg
    have bt2 : But b g H H2 := ((But.of s0).trans b1).trans b2
    refine ⟨_, rfl, L, _, rfl, SqL.of hL2, fun p np => ?_⟩
    obtain ⟨ms, hms, sub⟩ := cut_texts ys none (some r)
    rw [hms]
    have s3 := same_new np (.lst (ms.map V.str))
    obtain ⟨pb, pg, _⟩ := B2.ne np
    have pd : p ≠ d := fun e => by rw [e, hd2] at np; cases np
    have nd2 : ms.Nodup := sub.nodup (pm.nodup_iff.mpr nd)
    have lm : ms.length ≤ 6 := Nat.le_trans sub.length_le (by rw [pm.length_eq]; exact hl)
    have mem2 : ∀ x ∈ ms, x ∈ ns := fun x hx => pm.mem_iff.mp (sub.subset hx)
    refine ⟨p, rfl, ⟨_, SqL.of upd_same⟩, ?_⟩
    refine for_list (K := K) (a := p) (xs := ms.map V.str) (fun i σ H' => ∃ (kvs : List (Key × V)) (zf : Str → Int × Int) (x3 : Option V), σ = [some (.ref b), some (.ref t), some (.ref d), x3] ∧ H' d = some (.dK kvs) ∧ H' p = some (.lst (ms.map V.str)) ∧ kvs.map (·.1) = (ms.take i).map Sum.inr ∧
      (∀ k ∈ ms.take i, (Red (zf k) ∧ Sz sz_ (zf k)) ∧ ∃ v, valV kvs (Sum.inr k) = some v ∧ Dp K (hide d (mk b g H')) v (numD (zf k))) ∧ Box H' b g c (n + 8 + 6 * i) ∧ But b g H H')
      ⟨[], fun _ => (0, 1), none, rfl, s3 _ _ hd2, upd_same, rfl, (fun k hk => by cases hk), (B2.same s3).mono (by omega), bt2.trans (But.of s3)⟩ (fun i σ H' _ h => by obtain ⟨_, _, _, _, _, h, _⟩ := h; exact SqL.of h) ?_ ?_
    · rintro i x σ H3 hx ⟨kvs, zf, x3, rfl, hd3, hp3, hks, hval, B3, bt3⟩
      rw [List.getElem?_map] at hx
      obtain ⟨y, hy, rfl⟩ : ∃ y, ms[i]? = some y ∧ V.str y = x := by
        cases z : ms[i]? with
        | none => rw [z] at hx; cases hx
        | some y => rw [z] at hx; exact ⟨y, rfl, Option.some.inj hx⟩
      have hlt := get_lt hy
      have fresh : y ∉ ms.take i := fun m => by
        have e : ms = ms.take (i + 1) ++ ms.drop (i + 1) := (List.take_append_drop _ _).symm
        rw [e, take_more hy] at nd2
        have z := (List.nodup_append.mp (List.nodup_append.mp nd2).1).2.2
        exact z y m y (List.mem_singleton.mpr rfl) rfl
      have vn := valV_keys hks fresh
      refine ⟨_, rfl, b, g, c, _, rfl, B3, by omega, fun pz z H4 rz sz hpz B4 b4 => ?_⟩
      have hd4 := b4 d _ hd3 db dg
      have hp4 := b4 p _ hp3 pb pg
      have lk : kvs.length ≤ 6 := by
        have e := congrArg List.length hks
        rw [List.length_map, List.length_map, List.length_take] at e
        omega
      have pzd : pz ≠ d := fun e => by rw [e, hd4] at hpz; cases hpz
      refine ⟨_, rfl, _, rfl, d, _, rfl, .inl ⟨kvs, Sum.inr y, hd4, rfl, small1000 (by omega), rfl⟩, ?_⟩
      rw [putK_new _ vn]
      refine ⟨kvs ++ [(Sum.inr y, .ref pz)], fun k => if k = y then z else zf k, some (.str y), rfl, upd_same, by rw [upd_ne pd]; exact hp4, ?_, ?_, (B4.off db dg dc).mono (by omega), ?_⟩
      · rw [List.map_append, hks, take_more hy, List.map_append]
        rfl
      · have eh : hide d (mk b g (upd H4 d (.dK (kvs ++ [(Sum.inr y, .ref pz)])))) = hide d (mk b g H4) := funext fun a => by
          unfold hide mk
          by_cases e : a = d
          · rw [if_pos e, if_pos e]
          · rw [if_neg e, if_neg e, upd_ne e]
        rw [eh]
        intro k hk
        rw [take_more hy] at hk
        dsimp only
        by_cases e : k = y
        · subst e
          refine ⟨by rw [if_pos rfl]; exact ⟨rz, sz⟩, .ref pz, by rw [valV_end vn, if_pos rfl], ?_⟩
          rw [if_pos rfl]
          exact dp_rat (hide_at (mk_tup B4 hpz) pzd)
        · rcases List.mem_append.mp hk with hk | hk
          · obtain ⟨r1, v, hv, hvd⟩ := hval k hk
            refine ⟨by rw [if_neg e]; exact r1, v, by rw [valV_end vn, if_neg (fun z => e (by injection z))]; exact hv, ?_⟩
            rw [if_neg e]
            exact dp_same (hide_mono (mk_but b4)) _ _ hvd
          · exact absurd (List.mem_singleton.mp hk) e
      · intro a o h h1 h2
        rw [upd_ne (ne_of_none h hd)]
        exact (bt3.trans b4) a o h h1 h2
    · rintro σ H3 ⟨kvs, zf, x3, rfl, hd3, hp3, hks, hval, B3, bt3⟩
      have ll : (ms.map V.str).length = ms.length := List.length_map _
      rw [ll, List.take_length] at hks hval
      refine ⟨_, rfl, _, rfl, b, g, c, _, rfl, B3, by omega, fun pz z H4 rz sz hpz B4 b4 => ⟨(by show 2 ≤ sizeLine; decide), fun p5 np5 => ?_⟩⟩
      have s5 := same_new np5 (.tup [.int 0, .int 1])
      have B5 := B4.same s5
      refine ⟨(by show 2 ≤ sizeLine; decide), fun p6 np6 => ⟨_, rfl, b, g, c, _, 2, rfl, B5.same (same_new np6 _), (by omega), (by decide), (by decide), fun r6 H6 r06 r16 B6 bt6 => ?_⟩⟩
      have hp6 := But.new B5 np6 bt6
      have bu6 := But.after np6 bt6
      obtain ⟨v6, hv6, hat6⟩ := at_pick hp6 r06 r16 rfl
      refine ⟨p6, _, r6, v6, rfl, rfl, SqL.of hp6, hat6, ?_⟩
      have bt36 : But b g H3 H6 := (b4.trans (But.of s5)).trans bu6
      have hcz : ∃ cz : Int × Int, (Red cz ∧ Sz sz_ cz) ∧ Dp K H6 v6 (numD cz) := by
        simp only [List.mem_cons, List.not_mem_nil, or_false] at hv6
        rcases hv6 with e | e
        · exact ⟨z, ⟨rz, sz⟩, by rw [e]; exact dp_rat (bu6.tup B5 (s5 _ _ hpz))⟩
        · exact ⟨(0, 1), ⟨red_one 0, Sz.mono (j := 1) (k := sz_) ⟨by decide, by decide⟩ z1⟩, by rw [e]; exact dp_rat (bu6.tup B5 upd_same)⟩
      obtain ⟨cz, rcz, hcz⟩ := hcz
      have hd6 := bt36 d _ hd3 db dg
      refine ⟨d, v6, kvs, ms, zf, cz, rfl, hd6, hks, lm, fun k hk => ?_, hcz, fun r2 ys2 H7 s7 pm2 so hr2 => ?_⟩
      · obtain ⟨_, v, hv, hvd⟩ := hval k hk
        exact ⟨v, hv, dp_same ((hide_sub d _).trans (mk_sub b g H6)) _ _ (dp_same (hide_mono (mk_but bt36)) _ _ hvd)⟩
      · have B7 := B6.same s7
        have nd7 : ys2.Nodup := pm2.nodup_iff.mpr nd2
        refine q r2 _ cz H7 ⟨?_, ?_, rcz, ?_⟩ (fun t ht => by obtain ⟨k, hk, rfl⟩ := List.mem_map.mp ht; exact mem2 k (pm2.mem_iff.mp (List.mem_filter.mp hk).1)) (form_mk B7 hr2) (B7.mono (by omega)) ((bt3.trans bt36).trans (But.of s7))
        · intro t ht
          obtain ⟨k, hk, rfl⟩ := List.mem_map.mp ht
          obtain ⟨hk1, hk2⟩ := List.mem_filter.mp hk
          have hkm := pm2.mem_iff.mp hk1
          exact ⟨nm k (mem2 k hkm), (hval k hkm).1.1, of_decide_eq_true hk2, (hval k hkm).1.2⟩
        · rw [List.map_map]
          have e : ((fun t : Str × (Int × Int) => t.1) ∘ fun k => (k, zf k)) = id := rfl
          rw [e, List.map_id]
          unfold inOrder
          rw [Bool.and_eq_true, decide_eq_true_eq]
          refine ⟨(List.filter_sublist).nodup nd7, PyProof.Rows.sortedS_of_pairwise _ ?_⟩
          refine List.Pairwise.imp ?_ ((sorted_pw so).sublist List.filter_sublist)
          intro x y hxy
          rw [PyProof.Rows.ltCps_eq]
          exact decide_eq_false hxy
        · rw [List.length_map]
          exact Nat.le_trans (List.length_filter_le _ _) (by rw [pm2.length_eq]; exact lm)
end
end

/-! ### numbers as rationals; forms as sums -/
def qv (z : Int × Int) : Rat := (z.1 : Rat) / (z.2 : Rat)
theorem q_ne {z : Int × Int} (h : Red z) : ((z.2 : Int) : Rat) ≠ 0 := fun e => by
  have p := h.pos
  have e2 : z.2 = 0 := Rat.intCast_inj.mp e
  omega
theorem qv_add {a b : Int × Int} (ha : Red a) (hb : Red b) : qv (addz a b) = qv a + qv b := by
  have h := congrArg (fun i : Int => (i : Rat)) (add_cross ha hb)
  simp only [Rat.intCast_mul, Rat.intCast_add] at h
  have n0 := q_ne (add_red ha hb)
  have n1 := q_ne ha
  have n2 := q_ne hb
  unfold qv
  grind
theorem qv_mul {a b : Int × Int} (ha : Red a) (hb : Red b) : qv (mulz a b) = qv a * qv b := by
  have h := congrArg (fun i : Int => (i : Rat)) (mul_cross ha hb)
  simp only [Rat.intCast_mul] at h
  have n0 := q_ne (mul_red ha hb)
  have n1 := q_ne ha
  have n2 := q_ne hb
  unfold qv
  grind
theorem qv_inj {a b : Int × Int} (ha : Red a) (hb : Red b) (e : qv a = qv b) : a = b := by
  refine red_uniq ha hb (Rat.intCast_inj.mp ?_)
  rw [Rat.intCast_mul, Rat.intCast_mul]
  have n1 := q_ne ha
  have n2 := q_ne hb
  unfold qv at e
  grind
theorem qv_zero : qv (0, 1) = 0 := by decide +kernel
theorem qv_int (i : Int) : qv (i, 1) = (i : Rat) := by
  show (i : Rat) / ((1 : Int) : Rat) = i
  have : ((1 : Int) : Rat) = 1 := rfl
  rw [this]
  grind
theorem qv_top {a : Int × Int} (ha : Red a) : qv a = 0 ↔ a.1 = 0 := by
  have n1 := q_ne ha
  unfold qv
  constructor
  · intro e
    have : ((a.1 : Int) : Rat) = ((0 : Int) : Rat) := by
      have z : ((0 : Int) : Rat) = 0 := rfl
      rw [z]
      grind
    exact Rat.intCast_inj.mp this
  · intro e
    rw [e]
    have z : ((0 : Int) : Rat) = 0 := rfl
    rw [z]
    grind
theorem red_zero : Red ((0, 1) : Int × Int) := red_one 0
theorem top_zero {a : Int × Int} (ha : Red a) : a.1 = 0 ↔ a = (0, 1) := ⟨fun e => qv_inj ha red_zero (by rw [(qv_top ha).mpr e, qv_zero]), fun e => by rw [e]⟩
abbrev Ts := List (Str × (Int × Int))
/-- the factor of a name -/
def cq (ts : Ts) (x : Str) : Rat := ((ts.find? fun t => decide (t.1 = x)).map fun t => qv t.2).getD 0
theorem cq_nil (x : Str) : cq [] x = 0 := rfl
theorem cq_cons (t : Str × (Int × Int)) (ts : Ts) (x : Str) : cq (t :: ts) x = if t.1 = x then qv t.2 else cq ts x := by
  unfold cq
  rw [List.find?_cons]
  by_cases h : t.1 = x
  · rw [decide_eq_true h, if_pos h]
    rfl
  · rw [decide_eq_false h, if_neg h]
theorem cq_off {ts : Ts} {x : Str} (h : x ∉ ts.map (·.1)) : cq ts x = 0 := by
  induction ts with
  | nil => rfl
  | cons t ts ih =>
    rw [List.map_cons, List.mem_cons, not_or] at h
    rw [cq_cons, if_neg (fun e => h.1 e.symm), ih h.2]
theorem cq_mem {ts : Ts} (nd : (ts.map (·.1)).Nodup) {t : Str × (Int × Int)} (h : t ∈ ts) : cq ts t.1 = qv t.2 := by
  induction ts with
  | nil => cases h
  | cons u ts ih =>
    rw [List.map_cons] at nd
    obtain ⟨n1, n2⟩ := List.nodup_cons.mp nd
    rw [cq_cons]
    rcases List.mem_cons.mp h with rfl | h
    · rw [if_pos rfl]
    · rw [if_neg (fun e => n1 (by rw [e]; exact List.mem_map.mpr ⟨t, h, rfl⟩)), ih n2 h]
/-- a form in its one way of writing, over some names, with numbers below 2 ^ k -/
structure FormK (ns : List Str) (k : Nat) (ts : Ts) (c : Int × Int) : Prop where
  names : ∀ t ∈ ts, t.1 ∈ ns
  terms : ∀ t ∈ ts, Red t.2 ∧ t.2.1 ≠ 0 ∧ Sz k t.2
  order : inOrder (ts.map (·.1)) = true
  const : Red c ∧ Sz k c
theorem FormK.nodup {ns : List Str} {k : Nat} {ts : Ts} {c : Int × Int} (f : FormK ns k ts c) : (ts.map (·.1)).Nodup := of_decide_eq_true (Bool.and_eq_true_iff.mp f.order).1
theorem FormK.mono {ns : List Str} {j k : Nat} {ts : Ts} {c : Int × Int} (f : FormK ns j ts c) (h : j ≤ k) : FormK ns k ts c :=
  ⟨f.names, fun t ht => ⟨(f.terms t ht).1, (f.terms t ht).2.1, (f.terms t ht).2.2.mono h⟩, f.order, f.const.1, f.const.2.mono h⟩
theorem sub_len {l m : List Str} (nd : l.Nodup) (h : ∀ x ∈ l, x ∈ m) : l.length ≤ m.length := by
  induction l generalizing m with
  | nil => exact Nat.zero_le _
  | cons x l ih =>
    obtain ⟨n1, n2⟩ := List.nodup_cons.mp nd
    have hx := h x (List.mem_cons_self ..)
    have z := ih (m := m.erase x) n2 fun y hy => (List.mem_erase_of_ne (fun e => n1 (by rw [← e]; exact hy))).mpr (h y (List.mem_cons_of_mem _ hy))
    rw [List.length_erase_of_mem hx] at z
    have : 0 < m.length := List.length_pos_of_mem hx
    rw [List.length_cons]
    omega
theorem FormK.few {ns : List Str} {k : Nat} {ts : Ts} {c : Int × Int} (f : FormK ns k ts c) : ts.length ≤ ns.length := by
  rw [← List.length_map (f := (·.1))]
  exact sub_len f.nodup fun x hx => by
    obtain ⟨t, ht, rfl⟩ := List.mem_map.mp hx
    exact f.names t ht
theorem FormK.not0 {ns : List Str} {k : Nat} {ts : Ts} {c : Int × Int} (f : FormK ns k ts c) (x : Str) : x ∈ ts.map (·.1) ↔ cq ts x ≠ 0 := by
  constructor
  · intro h
    obtain ⟨t, ht, rfl⟩ := List.mem_map.mp h
    rw [cq_mem f.nodup ht]
    exact fun e => (f.terms t ht).2.1 ((qv_top (f.terms t ht).1).mp e)
  · intro h
    by_cases z : x ∈ ts.map (·.1)
    · exact z
    · exact absurd (cq_off z) h
theorem form_ext {ns ms : List Str} {j k : Nat} {ts us : Ts} {c d : Int × Int} (f : FormK ns j ts c) (g : FormK ms k us d) (h : ∀ x, cq ts x = cq us x) : ts = us := by
  have so : ∀ {l : List Str}, inOrder l = true → l.Pairwise leS := fun h => sorted_pw (Bool.and_eq_true_iff.mp h).2
  have en : ts.map (·.1) = us.map (·.1) := pw_uniq (so f.order) (so g.order) f.nodup g.nodup fun x => by rw [f.not0, g.not0, h]
  have el : ts.length = us.length := by
    have z := congrArg List.length en
    rw [List.length_map, List.length_map] at z
    exact z
  refine List.ext_getElem el fun i h1 h2 => ?_
  have e1 : (ts[i]).1 = (us[i]).1 := by
    have z : (ts.map (·.1))[i]? = (us.map (·.1))[i]? := by rw [en]
    rw [List.getElem?_map, List.getElem?_map, List.getElem?_eq_getElem h1, List.getElem?_eq_getElem h2] at z
    exact Option.some.inj z
  have m1 := List.getElem_mem h1
  have m2 := List.getElem_mem h2
  have e2 : (ts[i]).2 = (us[i]).2 := qv_inj (f.terms _ m1).1 (g.terms _ m2).1 (by rw [← cq_mem f.nodup m1, ← cq_mem g.nodup m2, e1, h])
  exact Prod.ext e1 e2
theorem cq_of (zf : Str → Int × Int) (p : Str → Bool) (x : Str) : ∀ ys : List Str, cq ((ys.filter p).map fun k => (k, zf k)) x = if x ∈ ys ∧ p x = true then qv (zf x) else 0
  | [] => by simp [cq_nil]
  | y :: ys => by
    have ih := cq_of zf p x ys
    by_cases hp : p y = true
    · rw [List.filter_cons_of_pos hp, List.map_cons, cq_cons, ih]
      by_cases e : y = x
      · subst e
        simp [hp]
      · have : x ≠ y := fun z => e z.symm
        simp [e, this]
    · rw [List.filter_cons_of_neg hp, ih]
      by_cases e : y = x
      · subst e
        simp [hp]
      · have : x ≠ y := fun z => e z.symm
        simp [this]
theorem order_filter {ys : List Str} (nd : ys.Nodup) (so : PyProof.Rows.sortedS ys = true) (p : Str → Bool) : inOrder (ys.filter p) = true := by
  unfold inOrder
  rw [Bool.and_eq_true, decide_eq_true_eq]
  refine ⟨(List.filter_sublist).nodup nd, PyProof.Rows.sortedS_of_pairwise _ ?_⟩
  refine List.Pairwise.imp ?_ ((sorted_pw so).sublist List.filter_sublist)
  intro x y hxy
  rw [PyProof.Rows.ltCps_eq]
  exact decide_eq_false hxy
/-- the form that a table of factors makes -/
theorem form_of {ns ys : List Str} {k : Nat} {zf : Str → Int × Int} {c : Int × Int} {p : Str → Bool} (nd : ys.Nodup) (so : PyProof.Rows.sortedS ys = true) (sub : ∀ y ∈ ys, y ∈ ns) (hz : ∀ y ∈ ys, Red (zf y) ∧ Sz k (zf y)) (hp : ∀ y ∈ ys, (p y = true ↔ (zf y).1 ≠ 0)) (hc : Red c ∧ Sz k c) :
    FormK ns k ((ys.filter p).map fun y => (y, zf y)) c ∧ ∀ x, cq ((ys.filter p).map fun y => (y, zf y)) x = if x ∈ ys then qv (zf x) else 0 := by
  refine ⟨⟨fun t ht => ?_, fun t ht => ?_, ?_, hc⟩, fun x => ?_⟩
  · obtain ⟨y, hy, rfl⟩ := List.mem_map.mp ht
    exact sub y (List.mem_filter.mp hy).1
  · obtain ⟨y, hy, rfl⟩ := List.mem_map.mp ht
    obtain ⟨h1, h2⟩ := List.mem_filter.mp hy
    exact ⟨(hz y h1).1, (hp y h1).mp h2, (hz y h1).2⟩
  · rw [List.map_map]
    have e : ((fun t : Str × (Int × Int) => t.1) ∘ fun y => (y, zf y)) = id := rfl
    rw [e, List.map_id]
    exact order_filter nd so p
  · rw [cq_of]
    by_cases hx : x ∈ ys
    · rw [if_pos hx]
      by_cases h : p x = true
      · rw [if_pos ⟨hx, h⟩]
      · rw [if_neg (fun w => h w.2)]
        have z : (zf x).1 = 0 := Classical.byContradiction fun z => h ((hp x hx).mpr z)
        exact ((qv_top (hz x hx).1).mpr z).symm
    · rw [if_neg hx, if_neg (fun w => hx w.1)]
/-- the worth of a form -/
def worthz (val : Str → Int × Int) : Ts → Int × Int → Int × Int
  | [], c => c
  | t :: ts, c => worthz val ts (addz c (mulz t.2 (val t.1)))
theorem worth_snoc (val : Str → Int × Int) : ∀ (ts : Ts) (t : Str × (Int × Int)) (c : Int × Int), worthz val (ts ++ [t]) c = addz (worthz val ts c) (mulz t.2 (val t.1))
  | [], _, _ => rfl
  | u :: ts, t, c => worth_snoc val ts t _
theorem worth_red {val : Str → Int × Int} : ∀ {ts : Ts} {c : Int × Int}, Red c → (∀ t ∈ ts, Red t.2 ∧ Red (val t.1)) → Red (worthz val ts c) ∧ qv (worthz val ts c) = qv c + (ts.map fun t => qv t.2 * qv (val t.1)).sum
  | [], c, hc, _ => ⟨hc, by show qv c = qv c + 0; grind⟩
  | t :: ts, c, hc, h => by
    obtain ⟨h1, h2⟩ := h t (List.mem_cons_self ..)
    have hm := mul_red h1 h2
    obtain ⟨r, e⟩ := worth_red (ts := ts) (add_red hc hm) fun u hu => h u (List.mem_cons_of_mem _ hu)
    refine ⟨r, ?_⟩
    show qv (worthz val ts (addz c (mulz t.2 (val t.1)))) = _
    rw [e, qv_add hc hm, qv_mul h1 h2, List.map_cons, List.sum_cons]
    grind
theorem worth_sz {val : Str → Int × Int} {k m : Nat} : ∀ {ts : Ts} {c : Int × Int} {j : Nat}, Sz j c → (∀ t ∈ ts, Sz k t.2 ∧ Sz m (val t.1)) → Sz (j + ts.length * (k + m + 1)) (worthz val ts c)
  | [], c, j, hc, _ => by rw [List.length_nil, Nat.zero_mul, Nat.add_zero]; exact hc
  | t :: ts, c, j, hc, h => by
    obtain ⟨h1, h2⟩ := h t (List.mem_cons_self ..)
    have z := worth_sz (ts := ts) (add_sz hc (mul_sz h1 h2)) fun u hu => h u (List.mem_cons_of_mem _ hu)
    have e : j + (t :: ts).length * (k + m + 1) = j + (k + m) + 1 + ts.length * (k + m + 1) := by
      rw [List.length_cons, Nat.succ_mul]
      omega
    rw [e]
    exact z
theorem sum_at {ns : List Str} (nd : ns.Nodup) {x : Str} (hx : x ∈ ns) (v : Rat) (g : Str → Rat) : (ns.map fun y => if x = y then v else g y).sum = v + (ns.map fun y => if x = y then 0 else g y).sum := by
  induction ns with
  | nil => cases hx
  | cons n ns ih =>
    obtain ⟨n1, n2⟩ := List.nodup_cons.mp nd
    rw [List.map_cons, List.map_cons, List.sum_cons, List.sum_cons]
    by_cases e : x = n
    · subst e
      rw [if_pos rfl, if_pos rfl]
      have same : (ns.map fun y => if x = y then v else g y) = ns.map fun y => if x = y then 0 else g y := List.map_congr_left fun y hy => by
        have : x ≠ y := fun e => n1 (by rw [e]; exact hy)
        rw [if_neg this, if_neg this]
      rw [same]
      grind
    · rw [if_neg e, if_neg e, ih n2 ((List.mem_cons.mp hx).resolve_left e)]
      grind
theorem sum_terms {ns : List Str} (nd : ns.Nodup) (g : Str → Rat) : ∀ {ts : Ts}, (ts.map (·.1)).Nodup → (∀ t ∈ ts, t.1 ∈ ns) → (ts.map fun t => qv t.2 * g t.1).sum = (ns.map fun x => cq ts x * g x).sum
  | [], _, _ => by
    have : ∀ l : List Str, (l.map fun x => cq [] x * g x).sum = 0 := by
      intro l
      induction l with
      | nil => rfl
      | cons y l ih => rw [List.map_cons, List.sum_cons, ih, cq_nil]; grind
    rw [this]
    rfl
  | t :: ts, h, m => by
    rw [List.map_cons] at h
    obtain ⟨n1, n2⟩ := List.nodup_cons.mp h
    have ih := sum_terms nd g n2 fun u hu => m u (List.mem_cons_of_mem _ hu)
    rw [List.map_cons, List.sum_cons, ih]
    have hx := m t (List.mem_cons_self ..)
    have e1 : (ns.map fun x => cq (t :: ts) x * g x) = ns.map fun y => if t.1 = y then qv t.2 * g t.1 else cq ts y * g y := List.map_congr_left fun y _ => by
      rw [cq_cons]
      by_cases e : t.1 = y
      · rw [if_pos e, if_pos e, e]
      · rw [if_neg e, if_neg e]
    have e2 : (ns.map fun y => if t.1 = y then 0 else cq ts y * g y) = ns.map fun x => cq ts x * g x := List.map_congr_left fun y _ => by
      by_cases e : t.1 = y
      · rw [if_pos e, ← e, cq_off n1]
        grind
      · rw [if_neg e]
    rw [e1, sum_at nd hx, e2]
theorem FormK.worth {ns : List Str} {k : Nat} {ts : Ts} {c : Int × Int} {val : Str → Int × Int} (f : FormK ns k ts c) (nd : ns.Nodup) (hv : ∀ x ∈ ns, Red (val x)) : Red (worthz val ts c) ∧ qv (worthz val ts c) = qv c + (ns.map fun x => cq ts x * qv (val x)).sum := by
  obtain ⟨r, e⟩ := worth_red (val := val) (ts := ts) f.const.1 fun t ht => ⟨(f.terms t ht).1, hv _ (f.names t ht)⟩
  exact ⟨r, by rw [e, sum_terms nd (fun x => qv (val x)) f.nodup f.names]⟩
theorem sum_add (ns : List Str) (f g : Str → Rat) : (ns.map fun x => f x + g x).sum = (ns.map f).sum + (ns.map g).sum := by
  induction ns with
  | nil => show (0 : Rat) = 0 + 0; grind
  | cons n ns ih => rw [List.map_cons, List.map_cons, List.map_cons, List.sum_cons, List.sum_cons, List.sum_cons, ih]; grind
theorem sum_mul (ns : List Str) (a : Rat) (f : Str → Rat) : (ns.map fun x => a * f x).sum = a * (ns.map f).sum := by
  induction ns with
  | nil => show (0 : Rat) = a * 0; grind
  | cons n ns ih => rw [List.map_cons, List.map_cons, List.sum_cons, List.sum_cons, ih]; grind

/-! ### dicts from names to numbers -/
theorem putK_old (kvs : List (Key × V)) (k : Key) (v : V) (m : k ∈ kvs.map (·.1)) : (putK kvs k v).map (·.1) = kvs.map (·.1) := by
  cases h : valV kvs k with
  | none => exact absurd m (valV_not h)
  | some w =>
    unfold putK
    have a : (kvs.any fun kv => decide (kv.1 = k)) = true := by rw [valV_any, h]; rfl
    rw [if_pos a, List.map_map]
    refine List.map_congr_left fun kv _ => ?_
    show (if kv.1 = k then (kv.1, v) else kv).1 = kv.1
    split <;> rfl
theorem putK_more (kvs : List (Key × V)) (k : Key) (v : V) (m : k ∉ kvs.map (·.1)) : (putK kvs k v).map (·.1) = kvs.map (·.1) ++ [k] := by
  cases h : valV kvs k with
  | none => rw [putK_new v h, List.map_append]; rfl
  | some w => exact absurd (valV_in h) m
theorem mem_inr {ks : List Str} {x : Str} : (Sum.inr x : Key) ∈ ks.map Sum.inr ↔ x ∈ ks := by
  rw [List.mem_map]
  constructor
  · rintro ⟨y, hy, e⟩
    injection e with e
    rw [← e]
    exact hy
  · intro h
    exact ⟨x, h, rfl⟩
/-- at d a dict of numbers by names, without more -/
structure DZ (K : PySem.W.Frag) (H : Hp) (d : Addr) (ks : List Str) (zf : Str → Int × Int) : Prop where
  nd : ks.Nodup
  off : ∀ x, x ∉ ks → zf x = (0, 1)
  at_ : ∃ kvs, H d = some (.dK kvs) ∧ kvs.map (·.1) = ks.map Sum.inr ∧ ∀ x ∈ ks, ∃ v, valV kvs (Sum.inr x) = some v ∧ Dp K (hide d H) v (numD (zf x))
theorem DZ.keep {K : PySem.W.Frag} {H H' : Hp} {d : Addr} {ks : List Str} {zf : Str → Int × Int} (D : DZ K H d ks zf) (s : Same H H') : DZ K H' d ks zf := by
  obtain ⟨kvs, h1, h2, h3⟩ := D.at_
  refine ⟨D.nd, D.off, kvs, s _ _ h1, h2, fun x hx => ?_⟩
  obtain ⟨v, e, hv⟩ := h3 x hx
  exact ⟨v, e, dp_same (hide_mono s) _ _ hv⟩
theorem DZ.keepd {K : PySem.W.Frag} {H H' : Hp} {d : Addr} {ks : List Str} {zf : Str → Int × Int} (D : DZ K H d ks zf) (e : H' d = H d) (s : Same (hide d H) (hide d H')) : DZ K H' d ks zf := by
  obtain ⟨kvs, h1, h2, h3⟩ := D.at_
  refine ⟨D.nd, D.off, kvs, by rw [e]; exact h1, h2, fun x hx => ?_⟩
  obtain ⟨v, e, hv⟩ := h3 x hx
  exact ⟨v, e, dp_same s _ _ hv⟩
/-- reading it, with a zero -/
theorem DZ.get {K : PySem.W.Frag} {H : Hp} {d : Addr} {ks : List Str} {zf : Str → Int × Int} (D : DZ K H d ks zf) (x : Str) : ∃ o, DGet H d (.str x) o ∧ (∀ zv, Dp K H zv (rat 0 1) → Dp K H (o.getD zv) (numD (zf x))) ∧ (x ∈ ks → ∃ v, o = some v ∧ Dp K H v (numD (zf x))) := by
  obtain ⟨kvs, h1, h2, h3⟩ := D.at_
  refine ⟨valV kvs (Sum.inr x), .inl ⟨kvs, Sum.inr x, .inl h1, rfl, rfl⟩, fun zv hz => ?_, fun hx => ?_⟩
  · by_cases hx : x ∈ ks
    · obtain ⟨v, e, hv⟩ := h3 x hx
      rw [e]
      exact dp_same (hide_sub d H) _ _ hv
    · rw [valV_keys h2 hx, D.off x hx]
      exact hz
  · obtain ⟨v, e, hv⟩ := h3 x hx
    exact ⟨v, e, dp_same (hide_sub d H) _ _ hv⟩
theorem DZ.len {K : PySem.W.Frag} {H : Hp} {d : Addr} {ks : List Str} {zf : Str → Int × Int} (D : DZ K H d ks zf) {kvs : List (Key × V)} (h : H d = some (.dK kvs)) : kvs.length = ks.length := by
  obtain ⟨kvs2, h1, h2, _⟩ := D.at_
  rw [h] at h1
  cases h1
  have z := congrArg List.length h2
  rw [List.length_map, List.length_map] at z
  exact z
/-- the names behind a store -/
def addN (ks : List Str) (x : Str) : List Str := if x ∈ ks then ks else ks ++ [x]
theorem mem_addN {ks : List Str} {x y : Str} : y ∈ addN ks x ↔ y ∈ ks ∨ y = x := by
  unfold addN
  split
  · rename_i h
    exact ⟨.inl, fun z => z.elim id fun e => by rw [e]; exact h⟩
  · rw [List.mem_append, List.mem_singleton]
theorem nd_addN {ks : List Str} {x : Str} (h : ks.Nodup) : (addN ks x).Nodup := by
  unfold addN
  split
  · exact h
  · rename_i n
    rw [List.nodup_append]
    exact ⟨h, List.pairwise_singleton _ _, fun u hu v hv e => n (by rw [← List.mem_singleton.mp hv, ← e]; exact hu)⟩
theorem DZ.put {K : PySem.W.Frag} {H : Hp} {d : Addr} {ks : List Str} {zf : Str → Int × Int} {kvs : List (Key × V)} (D : DZ K H d ks zf) (h : H d = some (.dK kvs)) {x : Str} {v : V} {z : Int × Int} (hv : Dp K (hide d H) v (numD z)) :
    DZ K (upd H d (.dK (putK kvs (Sum.inr x) v))) d (addN ks x) fun y => if y = x then z else zf y := by
  obtain ⟨kvs2, h1, h2, h3⟩ := D.at_
  rw [h] at h1
  cases h1
  refine ⟨nd_addN D.nd, fun y hy => ?_, _, upd_same, ?_, fun y hy => ?_⟩
  · rw [mem_addN, not_or] at hy
    show (if y = x then z else zf y) = _
    rw [if_neg hy.2]
    exact D.off y hy.1
  · unfold addN
    by_cases hx : x ∈ ks
    · rw [if_pos hx, putK_old _ _ _ (by rw [h2]; exact mem_inr.mpr hx), h2]
    · rw [if_neg hx, putK_more _ _ _ (by rw [h2]; exact fun w => hx (mem_inr.mp w)), h2, List.map_append]
      rfl
  · rw [hide_upd, valV_put]
    by_cases e : y = x
    · subst e
      refine ⟨v, if_pos rfl, ?_⟩
      rw [if_pos rfl]
      exact hv
    · obtain ⟨w, e1, hw⟩ := h3 y ((mem_addN.mp hy).resolve_right e)
      refine ⟨w, ?_, ?_⟩
      · rw [if_neg (fun q => e (by injection q))]
        exact e1
      · rw [if_neg e]
        exact hw
/-- the pairs of a form's terms -/
theorem pairs_at {K : PySem.W.Frag} {H : Hp} : ∀ {ts : Ts} {xs : List V}, DpAll K H xs (ts.map fun t => termN t.1 t.2) →
    ∃ (ps : List Addr) (kvs : List (Key × V)), xs = ps.map V.ref ∧ Paired (fun p kv => SqT K H p [kV kv.1, kv.2]) ps kvs ∧ kvs.map (·.1) = (ts.map (·.1)).map Sum.inr ∧ ∀ (i : Nat) (t : Str × (Int × Int)), ts[i]? = some t → ∃ v, kvs[i]? = some (Sum.inr t.1, v) ∧ Dp K H v (numD t.2)
  | [], _, .nil => ⟨[], [], rfl, .nil, rfl, fun i t h => by simp at h⟩
  | t :: ts, _, .cons (v := x) hx hr => by
    obtain ⟨ps, kvs, rfl, h1, h2, h3⟩ := pairs_at hr
    have hx : Dp K H x (.tuple [.str t.1, numD t.2]) := hx
    cases hx with
    | @tup p zs _ hs ha =>
      cases ha with
      | @cons n _ _ _ hn ha =>
        cases ha with
        | @cons z _ _ _ hz ha =>
          cases ha
          cases hn
          refine ⟨p :: ps, (Sum.inr t.1, z) :: kvs, rfl, .cons hs h1, by rw [List.map_cons, h2]; rfl, fun i u hu => ?_⟩
          cases i with
          | zero =>
            cases Option.some.inj hu
            exact ⟨z, rfl, hz⟩
          | succ i => exact h3 i u hu
theorem merge_new : ∀ {more kvs : List (Key × V)}, ((kvs ++ more).map (·.1)).Nodup → mergeK kvs more = kvs ++ more
  | [], kvs, _ => (List.append_nil kvs).symm
  | p :: more, kvs, h => by
    have hn : valV kvs p.1 = none := by
      cases e : valV kvs p.1 with
      | none => rfl
      | some v =>
        have m := valV_in e
        rw [List.map_append, List.map_cons, List.nodup_append] at h
        exact absurd rfl (h.2.2 p.1 m p.1 (List.mem_cons_self ..))
    show mergeK (putK kvs p.1 p.2) more = _
    rw [putK_new p.2 hn]
    have e : kvs ++ p :: more = (kvs ++ [(p.1, p.2)]) ++ more := by rw [List.append_assoc]; rfl
    rw [e] at h ⊢
    exact merge_new h
/-- the factor of a name, as a pair -/
def cz (ts : Ts) (x : Str) : Int × Int := ((ts.find? fun t => decide (t.1 = x)).map (·.2)).getD (0, 1)
theorem cz_off {ts : Ts} {x : Str} (h : x ∉ ts.map (·.1)) : cz ts x = (0, 1) := by
  unfold cz
  have : ts.find? (fun t => decide (t.1 = x)) = none := by
    rw [List.find?_eq_none]
    intro t ht
    rw [decide_eq_true_eq]
    intro e
    exact h (List.mem_map.mpr ⟨t, ht, e⟩)
  rw [this]
  rfl
theorem cz_mem {ts : Ts} (nd : (ts.map (·.1)).Nodup) {t : Str × (Int × Int)} (h : t ∈ ts) : cz ts t.1 = t.2 := by
  unfold cz
  induction ts with
  | nil => cases h
  | cons u ts ih =>
    rw [List.map_cons] at nd
    obtain ⟨n1, n2⟩ := List.nodup_cons.mp nd
    rw [List.find?_cons]
    rcases List.mem_cons.mp h with rfl | h
    · rw [decide_eq_true rfl]
      rfl
    · rw [decide_eq_false (fun e => n1 (by rw [e]; exact List.mem_map.mpr ⟨t, h, rfl⟩))]
      exact ih n2 h
theorem qv_cz (ts : Ts) (x : Str) : qv (cz ts x) = cq ts x := by
  unfold cz cq
  cases ts.find? (fun t => decide (t.1 = x)) with
  | none => exact qv_zero
  | some t => rfl
theorem FormK.cz_ok {ns : List Str} {k : Nat} {ts : Ts} {c : Int × Int} (f : FormK ns k ts c) (h : 1 ≤ k) (x : Str) : Red (cz ts x) ∧ Sz k (cz ts x) := by
  by_cases m : x ∈ ts.map (·.1)
  · obtain ⟨t, ht, rfl⟩ := List.mem_map.mp m
    rw [cz_mem f.nodup ht]
    exact ⟨(f.terms t ht).1, (f.terms t ht).2.2⟩
  · rw [cz_off m]
    have p : 1 < 2 ^ k := Nat.lt_of_lt_of_le (by decide : 1 < 2 ^ 1) (Nat.pow_le_pow_right (by decide) h)
    exact ⟨red_zero, by show (0 : Int).natAbs < _; omega, by show (1 : Int).natAbs < _; omega⟩
/-- dict(terms) -/
theorem DZ.make {K : PySem.W.Frag} {H : Hp} {d : Addr} {ts : Ts} {kvs : List (Key × V)} (nd : (ts.map (·.1)).Nodup) (hd : H d = none) (h2 : kvs.map (·.1) = (ts.map (·.1)).map Sum.inr)
    (h3 : ∀ (i : Nat) (t : Str × (Int × Int)), ts[i]? = some t → ∃ v, kvs[i]? = some (Sum.inr t.1, v) ∧ Dp K H v (numD t.2)) : DZ K (upd H d (.dK (mergeK [] kvs))) d (ts.map (·.1)) (cz ts) := by
  have nk : (kvs.map (·.1)).Nodup := by
    rw [h2]
    exact List.Pairwise.map _ (fun a b h e => h (by injection e)) nd
  rw [merge_new (kvs := []) nk, List.nil_append]
  refine ⟨nd, fun x hx => cz_off hx, kvs, upd_same, h2, fun x hx => ?_⟩
  obtain ⟨t, ht, rfl⟩ := List.mem_map.mp hx
  obtain ⟨i, hi⟩ := List.getElem?_of_mem ht
  obtain ⟨v, e, hv⟩ := h3 i t hi
  refine ⟨v, ?_, ?_⟩
  · exact val_nodup nk _ (List.mem_of_getElem? e)
  · rw [hide_upd, cz_mem nd ht]
    exact dp_same (fun a o h => hide_at h (ne_of_none h hd)) _ _ hv

theorem op_neDK {X : Cx} {K : PySem.W.Frag} (h : X.K = K) (hu : X.A.units + 64 < cLine) : OpR X (compareOp .NotEq) (rNeD K) := by
  subst h
  exact op_neD hu
theorem cq_app_off {ts : Ts} {t : Str × (Int × Int)} {x : Str} (h : t.1 ≠ x) : cq (ts ++ [t]) x = cq ts x := by
  induction ts with
  | nil => rw [List.nil_append, cq_cons, if_neg h]
  | cons u ts ih => rw [List.cons_append, cq_cons, cq_cons, ih]
def spAddF (K : PySem.W.Frag) : Sp := fun vs H Q _ => ∃ (v u : V) (ns : List Str) (j k : Nat) (ts us : Ts) (c e : Int × Int), vs = [v, u] ∧ FormAt K H v ts c ∧ FormAt K H u us e ∧ FormK ns j ts c ∧ FormK ns k us e ∧ ns.length ≤ 60 ∧ 1 ≤ j ∧ 1 ≤ k ∧ j + k + 1 ≤ 7000 ∧
  ∀ r H' ws, Same H H' → FormAt K H' r ws (addz c e) → FormK ns (j + k + 1) ws (addz c e) → (∀ x, cq ws x = cq ts x + cq us x) → Q r H'
theorem zero_eqv {z : Int × Int} (h : Red z) : (!PyData.eqv (numD z) (rat 0 1)) = decide (z.1 ≠ 0) := by
  show (!PyData.eqv (rat z.1 z.2) (rat 0 1)) = _
  rw [eqv_rats, zero_rat h]
section
variable {P : Program} {w : World} {K : PySem.W.Frag} {mg : Str → Option Value} {base : Heap}
theorem ok_add_forms (T : Bt mg) (Tt : Ut4 K mg) (Td : mg "dict" = none) (GA : Kn P w K mg base CX0 "add_ratios" 2 ["one", "other"] (spBinR K addz)) (D : Df K mg "add_forms" s_add_forms ["one", "other"]) :
    Kn P w K mg base CX0 "add_forms" 3 ["one", "other"] (spAddF K) := by
  obtain ⟨az, hz, saz⟩ := Tt.g_zero
  obtain ⟨f, fd, F, hm, hb⟩ := D
  obtain ⟨f_add_ratios, fd_add_ratios, G_add_ratios, m_add_ratios, k_add_ratios, b_add_ratios⟩ := GA
  refine ⟨f, fd, F.ok sc_add_forms (fun vs H Q E h => ?_) (fun cdv A outer s H vs Q E hr h => ?_), hm, F.kp, hb⟩
  · obtain ⟨v, u, ns, j, k, ts, us, c, e, rfl, _⟩ := h
    rfl
  · obtain ⟨v, u, ns, j, k, ts, us, c, e, rfl, fv, fu, gt, gu, hns, j1, k1, hjk, q⟩ := h
    refine ⟨_, (pss_cons (ps_asg (pv 0) (pg_tup (by rfl) (pgs_cons (pg_name (i := 2) sc_add_forms.nd rfl (Or.inl rfl)) (pgs_cons (pg_name (i := 3) sc_add_forms.nd rfl (Or.inl rfl)) pgs_nil))))
      (pss_cons (ps_asg (pv 1) (pg_tup (by rfl) (pgs_cons (pg_name (i := 4) sc_add_forms.nd rfl (Or.inl rfl)) (pgs_cons (pg_name (i := 5) sc_add_forms.nd rfl (Or.inl rfl)) pgs_nil))))
      (pss_cons (ps_set (i := 6) sc_add_forms.nd rfl (Or.inr rfl) (pe_callTy (call_dictT (K := K) rfl rfl) (by rfl) Td (by decide +kernel) (pa_cons (pv 2) pa_nil)))
      (pss_cons (ps_for PassesOwn.never rfl (pi_tup (pv 4)) (pg_tup (by rfl) (pgs_cons (pg_name (i := 7) sc_add_forms.nd rfl (Or.inl rfl)) (pgs_cons (pg_name (i := 8) sc_add_forms.nd rfl (Or.inl rfl)) pgs_nil)))
        (pss_one (ps_asg (pe_call G_add_ratios (hr.mono (by omega)) rfl m_add_ratios k_add_ratios b_add_ratios .nil pass0 (pa_cons (pe_dget2 (hu_of hr) (pv 6) (pv 7) (pe_glob (v := .ref az) rfl hz rfl) ⟨rfl, by rfl, by rfl, by rfl⟩) (pa_cons (pv 8) pa_nil))) (pg_sub (pv 6) (pv 7) (set_dict (hu_of hr))))))
      (pss_cons (ps_setLc (i := 9) (own := [("name", 7)]) rfl sc_add_forms.nd rfl rfl (sw_true rfl rfl rfl (by decide +kernel)) (pi_list (pe_callB (call_sortedD (by rfl)) (by rfl) Tt.n_sorted (by decide +kernel) (pa_cons (pv 6) pa_nil))) (blkOk_by (N := ["one", "other", "one_terms", "one_constant", "other_terms", "other_constant", "factors", "name", "factor", "terms"]) (sc := defScope s_add_forms) (by decide +kernel)) (fun _ _ _ _ _ => (pg_name (i := 7) sc_add_forms.nd rfl (Or.inl rfl))) (fun _ _ _ _ _ => (pts_one (pt_cmpR (op_neDK (K := K) rfl hr.units) (pe_dget (hu_of hr) (pv 6) (pv 7) (fun _ _ => rfl)) (pe_glob (v := .ref az) rfl hz rfl) (nomark _)))) (fun _ _ _ _ _ => (pe_tup (pa_cons (pv 7) (pa_cons (pe_dget (hu_of hr) (pv 6) (pv 7) (fun _ _ => rfl)) pa_nil)))))
      (pss_one (ps_ret (pe_tup (pa_cons (pe_callTy (call_tupF (K := K) rfl) (by rfl) T.n_tuple (by decide +kernel) (pa_cons (pv 9) pa_nil)) (pa_cons (pe_call G_add_ratios (hr.mono (by omega)) rfl m_add_ratios k_add_ratios b_add_ratios .nil pass0 (pa_cons (pv 3) (pa_cons (pv 5) pa_nil))) pa_nil)))))))))), ?_⟩
    obtain ⟨a1, p1, xs1, c1, rfl, h1, hc1, n1, t1⟩ := fv
    obtain ⟨a2, p2, xs2, c2, rfl, h2, hc2, n2, t2⟩ := fu
    refine ⟨_, rfl, a1, _, rfl, h1, rfl, .ref p1, _, rfl, c1, _, rfl, rfl, ?_⟩
    refine ⟨_, rfl, a2, _, rfl, h2, rfl, .ref p2, _, rfl, c2, _, rfl, rfl, ?_⟩
    obtain ⟨ps, kvs, rfl, hpair, hk, hat⟩ := pairs_at t1
    refine ⟨_, rfl, p1, ps, kvs, rfl, n1, hpair, fun d hd => ?_⟩
    have D0 := DZ.make (K := K) gt.nodup hd hk hat
    have s0 := same_new hd (.dK (mergeK [] kvs))
    have lt2 := dps_len t2
    rw [List.length_map] at lt2
    have fewu := gu.few
    refine ⟨_, rfl, p2, rfl, ⟨_, (n2.same s0).sq⟩, ?_⟩
    refine for_tup (K := K) (a := p2) (xs := xs2) (fun i σ H' => ∃ ks zf o7 o8, σ = [some (.ref a1), some (.ref a2), some (.ref p1), some c1, some (.ref p2), some c2, some (.ref d), o7, o8, none] ∧ DZ K H' d ks zf ∧ Same H (hide d H') ∧ (∀ x ∈ ks, x ∈ ns) ∧
      (∀ x, Red (zf x) ∧ Sz (j + k + 1) (zf x)) ∧ (∀ x, qv (zf x) = cq ts x + cq (us.take i) x) ∧ ∀ x, x ∉ (us.take i).map (·.1) → zf x = cz ts x)
      ⟨_, _, none, none, rfl, D0, hide_same s0 hd, (fun x hx => by obtain ⟨t, ht, rfl⟩ := List.mem_map.mp hx; exact gt.names t ht), (fun x => ⟨(gt.cz_ok j1 x).1, (gt.cz_ok j1 x).2.mono (by omega)⟩), (fun x => by rw [qv_cz]; show _ = _ + (0 : Rat); grind), fun x _ => rfl⟩
      (fun i σ H' _ h => by obtain ⟨_, _, _, _, _, _, h, _⟩ := h; exact (n2.same (h.trans (hide_sub d H'))).sq) ?_ ?_
    · rintro i x σ H1 hx ⟨ks, zf, o7, o8, rfl, D1, s1, sub, rz, hq, hold⟩
      obtain ⟨dt, hdt, hdx⟩ := dps_get t2 hx
      rw [List.getElem?_map] at hdt
      obtain ⟨t, ht, rfl⟩ : ∃ t, us[i]? = some t ∧ termN t.1 t.2 = dt := by
        cases z : us[i]? with
        | none => rw [z] at hdt; cases hdt
        | some t => rw [z] at hdt; exact ⟨t, rfl, Option.some.inj hdt⟩
      have s1' := s1.trans (hide_sub d H1)
      have hdx1 : Dp K H1 x (.tuple [.str t.1, numD t.2]) := dp_same s1' _ _ hdx
      have htm := List.mem_of_getElem? ht
      have fresh : t.1 ∉ (us.take i).map (·.1) := fun m => by
        have nd := gu.nodup
        have e : us = us.take (i + 1) ++ us.drop (i + 1) := (List.take_append_drop _ _).symm
        rw [e, take_more ht, List.map_append, List.map_append] at nd
        exact (List.nodup_append.mp (List.nodup_append.mp nd).1).2.2 _ m _ (List.mem_singleton.mpr rfl) rfl
      cases hdx1 with
      | @tup at_ zs _ hsz haz =>
        cases haz with
        | @cons n1_ _ _ _ hn haz =>
          cases haz with
          | @cons r1 _ _ _ hr1 haz =>
            cases haz
            cases hn
            refine ⟨_, _, rfl, hsz, rfl, _, _, rfl, _, _, rfl, rfl, ?_⟩
            obtain ⟨o, hget, hzero, _⟩ := D1.get t.1
            obtain ⟨kvs1, hd1, hk1, _⟩ := D1.at_
            refine ⟨_, rfl, d, rfl, .inl ⟨kvs1, .inl hd1⟩, _, rfl, o, hget, _, rfl, ?_⟩
            have z0 : Dp K H1 (V.ref az) (rat 0 1) := .tup (saz _) (.cons (.int 0) (.cons (.int 1) .nil))
            have ez := hold _ fresh
            have cok := gt.cz_ok j1 t.1
            obtain ⟨rt, _, st⟩ := gu.terms t htm
            have hzf := hzero _ z0
            rw [ez] at hzf
            refine ⟨_, _, cz ts t.1, t.2, j, k, rfl, hzf, hr1, cok.1, rt, cok.2, st, hjk, fun p H2 s2 hp2 => ?_⟩
            have D2 := D1.keep s2
            have hd2 := s2 _ _ hd1
            have pd : p ≠ d := fun e => by rw [e, hd2] at hp2; cases hp2
            have lk : kvs1.length ≤ 60 := by
              rw [D1.len hd1]
              exact Nat.le_trans (sub_len D1.nd sub) hns
            refine ⟨_, rfl, _, rfl, d, _, rfl, .inl ⟨kvs1, Sum.inr t.1, hd2, rfl, small1000 (by omega), rfl⟩, ?_⟩
            have D3 := D2.put hd2 (x := t.1) (v := .ref p) (z := addz (cz ts t.1) t.2) (dp_rat (hide_at hp2 pd))
            refine ⟨_, _, _, _, rfl, D3, ?_, ?_, ?_, ?_, ?_⟩
            · rw [hide_upd]
              exact s1.trans (hide_mono s2)
            · intro y hy
              rcases mem_addN.mp hy with hy | rfl
              · exact sub y hy
              · exact gu.names t htm
            · intro y
              by_cases e : y = t.1
              · rw [if_pos e]
                exact ⟨add_red cok.1 rt, add_sz cok.2 st⟩
              · rw [if_neg e]
                exact rz y
            · intro y
              rw [take_more ht]
              by_cases e : y = t.1
              · subst e
                rw [if_pos rfl, qv_add cok.1 rt, qv_cz]
                have : cq (us.take i ++ [t]) t.1 = qv t.2 := by
                  refine cq_mem (ts := us.take i ++ [t]) ?_ (List.mem_append_right _ (List.mem_singleton.mpr rfl))
                  rw [← take_more ht]
                  exact (List.map_take (f := (·.1)) (l := us) (i := i + 1) ▸ (List.take_sublist _ _).nodup gu.nodup)
                rw [this]
              · rw [if_neg e, hq, cq_app_off (fun w => e w.symm)]
            · intro y hy
              rw [take_more ht, List.map_append, List.mem_append, not_or] at hy
              rw [if_neg (fun e => hy.2 (List.mem_singleton.mpr e))]
              exact hold y hy.1
    · rintro σ H1 ⟨ks, zf, o7, o8, rfl, D1, s1, sub, rz, hq, _⟩
      rw [lt2, List.take_length] at hq
      obtain ⟨kvs1, hd1, hk1, hval⟩ := D1.at_
      have lks : ks.length ≤ 60 := Nat.le_trans (sub_len D1.nd sub) hns
      have s1' := s1.trans (hide_sub d H1)
      refine ⟨_, rfl, d, kvs1, ks, rfl, .inl hd1, hk1, by omega, fun ys p pm so np => ?_⟩
      have s2 := same_new np (.lst (ys.map V.str))
      have D2 := D1.keep s2
      refine ⟨p, rfl, ⟨_, SqL.of upd_same⟩, fun D hD => ?_⟩
      have ly : ys.length ≤ 60 := by rw [pm.length_eq]; exact lks
      have pz : ∀ y, (!PyData.eqv (numD (zf y)) (rat 0 1)) = decide ((zf y).1 ≠ 0) := fun y => zero_eqv (rz y).1
      refine lc_list (K := K) (a := p) (xs := ys.map V.str) (fun i H' => Same (upd H1 p (.lst (ys.map V.str))) H' ∧ ∃ rs : List V, rs.length ≤ i ∧ H' D = some (.lst rs) ∧ DpAll K (hide D H') rs (((ys.take i).filter fun k => decide ((zf k).1 ≠ 0)).map fun k => termN k (zf k))) ⟨same_new hD _, [], Nat.le_refl _, upd_same, .nil⟩ (fun i H' _ h => SqL.of (h.1 _ _ upd_same)) ?_ ?_
      · rintro i x H3 hx ⟨s3, rs, lr, hrs, hall⟩
        rw [List.getElem?_map] at hx
        obtain ⟨y, hy, rfl⟩ : ∃ y, ys[i]? = some y ∧ V.str y = x := by
          cases z : ys[i]? with
          | none => rw [z] at hx; cases hx
          | some y => rw [z] at hx; exact ⟨y, rfl, Option.some.inj hx⟩
        have hlt := get_lt hy
        have hyk := pm.mem_iff.mp (List.mem_of_getElem? hy)
        have D3 := D2.keep s3
        obtain ⟨o, hget, _, hin⟩ := D3.get y
        obtain ⟨v, rfl, hv⟩ := hin hyk
        obtain ⟨pr, rfl, hpr⟩ := dp_rat_inv hv
        refine ⟨rfl, _, rfl, _, rfl, d, .ref pr, rfl, hget, _, _, hv, .tup (saz _) (.cons (.int 0) (.cons (.int 1) .nil)), rfl, rfl, _, rfl, ?_⟩
        refine ite2 (fun m => ?_) (fun m => ?_)
        · have m2 := (pz y).symm.trans m
          have dg : ∀ H', Same H3 H' → DGet H' d (.str y) (some (.ref pr)) := fun H' sx => by
            rcases hget with ⟨kv, k', rd, e1, e2⟩ | ⟨kv, k', b', rd, e1, e2⟩
            · exact .inl ⟨kv, k', rd.imp (sx _ _) (fun ⟨ob, h⟩ => ⟨ob, sx _ _ h⟩), e1, e2⟩
            · cases e1
          refine ⟨_, rfl, _, rfl, _, rfl, d, .ref pr, rfl, dg _ (Same.refl _), (by show 2 ≤ sizeLine; decide), fun p8 np8 => ?_⟩
          have s8 := same_new np8 (.tup [.str y, .ref pr])
          refine ⟨rs, s8 _ _ hrs, small1000 (by omega), same_upd (s3.trans s8) hD, rs ++ [.ref p8], by rw [List.length_append]; show rs.length + 1 ≤ i + 1; omega, upd_same, ?_⟩
          rw [take_more hy, List.filter_append, List.filter_cons_of_pos (by exact m2), List.filter_nil, List.map_append, hide_upd]
          obtain ⟨_, e2, hv2⟩ := hval y hyk
          have hD1 : H1 D = none := s2.free hD
          refine dps_snoc (dps_same (hide_mono s8) _ _ hall) (.tup (SqT.of (hide_at upd_same fun e => ?_)) (.cons (.str y) (.cons ?_ .nil)))
          · rw [e, hrs] at np8
            cases np8
          · rcases hget with ⟨kv, k', rd, e1, e2'⟩ | ⟨kv, k', b', rd, e1, e2'⟩
            · have hd3 := s3 _ _ (s2 _ _ hd1)
              have e3 : k' = Sum.inr y := by
                cases k' with
                | inl z => cases e1
                | inr z => injection e1 with e1; rw [e1]
              subst e3
              have ekv : kv = kvs1 := by
                rcases rd with rd | ⟨ob, rd⟩
                · rw [hd3] at rd
                  cases rd
                  rfl
                · rw [hd3] at rd
                  cases rd
              rw [ekv, e2] at e2'
              cases e2'
              exact dp_same (hide_same (s2.trans (s3.trans s8)) hD1) _ _ (dp_same (hide_sub d H1) _ _ hv2)
            · cases e1
        · have m2 := (pz y).symm.trans (Bool.eq_false_iff.mpr m)
          refine ⟨s3, rs, by omega, hrs, ?_⟩
          rw [take_more hy, List.filter_append, List.filter_cons_of_neg (by rw [m2]; exact Bool.false_ne_true), List.filter_nil, List.append_nil]
          exact hall
      · rintro H3 ⟨s3, rs, lr, hrs, hall⟩
        have ll : (ys.map V.str).length = ys.length := List.length_map _
        rw [ll, List.take_length] at hall
        have s13 := s1'.trans (s2.trans s3)
        refine ⟨_, rfl, D, rs, rfl, SqL.of hrs, fun p4 o4 np4 od4 => ?_⟩
        have s4 := same_new np4 (.frz o4 (.tup rs))
        have rc := gt.const
        have re := gu.const
        refine ⟨_, rfl, _, rfl, c1, c2, c, e, j, k, rfl, dp_same (s13.trans s4) _ _ hc1, dp_same (s13.trans s4) _ _ hc2, rc.1, re.1, rc.2, re.2, hjk, fun pc H5 s5 hpc => ⟨(by show 2 ≤ sizeLine; decide), fun p6 np6 => ?_⟩⟩
        have s6 := same_new np6 (.tup [.ref p4, .ref pc])
        obtain ⟨gw, hw⟩ := form_of (ns := ns) (k := j + k + 1) (zf := zf) (c := addz c e) (p := fun k => decide ((zf k).1 ≠ 0)) (pm.nodup_iff.mpr D1.nd) so (fun y hy => sub y (pm.mem_iff.mp hy)) (fun y _ => rz y) (fun y _ => decide_eq_true_iff) ⟨add_red rc.1 re.1, add_sz rc.2 re.2⟩
        refine q _ _ _ (s13.trans (s4.trans (s5.trans s6))) ⟨p6, p4, rs, .ref pc, rfl, SqT.of upd_same, dp_rat (s6 _ _ hpc), ⟨o4, s6 _ _ (s5 _ _ upd_same), od4⟩, ?_⟩ gw fun x => ?_
        · rw [List.map_map]
          exact dps_same ((hide_sub D H3).trans (s4.trans (s5.trans s6))) _ _ hall
        · rw [hw, ← hq]
          by_cases hx : x ∈ ys
          · rw [if_pos hx]
          · rw [if_neg hx, D1.off x (fun z => hx (pm.mem_iff.mpr z)), qv_zero]
end

def spScaleF (K : PySem.W.Frag) : Sp := fun vs H Q _ => ∃ (x v : V) (ns : List Str) (j k : Nat) (s : Int × Int) (ts : Ts) (c : Int × Int), vs = [x, v] ∧ Nv K H x s ∧ Sz j s ∧ FormAt K H v ts c ∧ FormK ns k ts c ∧ ns.length ≤ 60 ∧ 1 ≤ k ∧ j + k + 1 ≤ 7000 ∧
  ∀ r H' ws, Same H H' → FormAt K H' r ws (mulz s c) → FormK ns (j + k) ws (mulz s c) → (∀ y, cq ws y = qv s * cq ts y) → Q r H'
theorem cq_scale (s : Int × Int) (hs : Red s) : ∀ {ts : Ts}, (∀ t ∈ ts, Red t.2) → ∀ x, cq (ts.map fun t => (t.1, mulz s t.2)) x = qv s * cq ts x
  | [], _, x => by show (0 : Rat) = qv s * 0; grind
  | t :: ts, h, x => by
    rw [List.map_cons, cq_cons, cq_cons, cq_scale s hs (fun u hu => h u (List.mem_cons_of_mem _ hu)) x]
    by_cases e : t.1 = x
    · rw [if_pos e, if_pos e, qv_mul hs (h t (List.mem_cons_self ..))]
    · rw [if_neg e, if_neg e]
theorem mul_top {a b : Int × Int} (ha : Red a) (hb : Red b) (h1 : a.1 ≠ 0) (h2 : b.1 ≠ 0) : (mulz a b).1 ≠ 0 := fun e => by
  have z := (qv_top (mul_red ha hb)).mpr e
  rw [qv_mul ha hb] at z
  have n1 : qv a ≠ 0 := fun w => h1 ((qv_top ha).mp w)
  have n2 : qv b ≠ 0 := fun w => h2 ((qv_top hb).mp w)
  grind
theorem mul_zero' {c : Int × Int} (h : Red c) : mulz (0, 1) c = (0, 1) := qv_inj (mul_red red_zero h) red_zero (by rw [qv_mul red_zero h, qv_zero]; grind)
theorem zero_sz {k : Nat} (h : 1 ≤ k) : Sz k ((0, 1) : Int × Int) := by
  have p : 1 < 2 ^ k := Nat.lt_of_lt_of_le (by decide : 1 < 2 ^ 1) (Nat.pow_le_pow_right (by decide) h)
  exact ⟨by show (0 : Int).natAbs < _; omega, by show (1 : Int).natAbs < _; omega⟩
theorem FormK.scale {ns : List Str} {j k : Nat} {ts : Ts} {c s : Int × Int} (f : FormK ns k ts c) (hs : Red s) (h0 : s.1 ≠ 0) (zs : Sz j s) : FormK ns (j + k) (ts.map fun t => (t.1, mulz s t.2)) (mulz s c) where
  names := fun t ht => by
    obtain ⟨u, hu, rfl⟩ := List.mem_map.mp ht
    exact f.names u hu
  terms := fun t ht => by
    obtain ⟨u, hu, rfl⟩ := List.mem_map.mp ht
    obtain ⟨h1, h2, h3⟩ := f.terms u hu
    exact ⟨mul_red hs h1, mul_top hs h1 h0 h2, mul_sz zs h3⟩
  order := by
    rw [List.map_map]
    exact f.order
  const := ⟨mul_red hs f.const.1, mul_sz zs f.const.2⟩
theorem FormK.nil {ns : List Str} {k : Nat} {c : Int × Int} (h : Red c) (z : Sz k c) : FormK ns k [] c := ⟨fun t ht => (by cases ht), fun t ht => (by cases ht), rfl, h, z⟩
section
variable {P : Program} {w : World} {K : PySem.W.Frag} {mg : Str → Option Value} {base : Heap}
theorem ok_scale_form {C : Addr} (T : Bt mg) (Tt : Ut4 K mg) (GA : Kn P w K mg base (L2.CX P w) "as_ratio" 3 ["value"] (spAsRatio K C)) (GC : Kn P w K mg base CX0 "constant_form" 4 ["number"] (spConstF K)) (GM : Kn P w K mg base CX0 "multiply_ratios" 2 ["one", "other"] (spBinR K mulz))
    (D : Df K mg "scale_form" s_scale_form ["number", "form"]) : Kn P w K mg base CX0 "scale_form" 5 ["number", "form"] (spScaleF K) := by
  obtain ⟨az, hz, saz⟩ := Tt.g_zero
  obtain ⟨f, fd, F, hm, hb⟩ := D
  obtain ⟨f_as_ratio, fd_as_ratio, G_as_ratio, m_as_ratio, k_as_ratio, b_as_ratio⟩ := GA
  obtain ⟨f_constant_form, fd_constant_form, G_constant_form, m_constant_form, k_constant_form, b_constant_form⟩ := GC
  obtain ⟨f_multiply_ratios, fd_multiply_ratios, G_multiply_ratios, m_multiply_ratios, k_multiply_ratios, b_multiply_ratios⟩ := GM
  refine ⟨f, fd, F.ok sc_scale_form (fun vs H Q E h => ?_) (fun cdv A outer s H vs Q E hr h => ?_), hm, F.kp, hb⟩
  · obtain ⟨x, v, ns, j, k, s, ts, c, rfl, _⟩ := h
    rfl
  · obtain ⟨x, v, ns, j, k, sc, ts, c, rfl, hx, zs, fv, gt, hns, k1, hjk, q⟩ := h
    refine ⟨_, (pss_cons (ps_set (i := 2) sc_scale_form.nd rfl (Or.inr rfl) (pe_call G_as_ratio (hr.mono (by omega)) rfl m_as_ratio k_as_ratio b_as_ratio .nil passL (pa_cons (pv 0) pa_nil)))
      (pss_cons (ps_if (pt_cmpR (op_eqD hr.units) (pv 2) (pe_glob (v := .ref az) rfl hz rfl) (nomark _)) (pss_one (ps_ret (pe_call G_constant_form (hr.mono (by omega)) rfl m_constant_form k_constant_form b_constant_form .nil pass0 (pa_cons (pe_glob (v := .ref az) rfl hz rfl) pa_nil)))) pss_nil)
      (pss_cons (ps_asg (pv 1) (pg_tup (by rfl) (pgs_cons (pg_name (i := 3) sc_scale_form.nd rfl (Or.inl rfl)) (pgs_cons (pg_name (i := 4) sc_scale_form.nd rfl (Or.inl rfl)) pgs_nil))))
      (pss_cons (ps_setLc (i := 5) (own := [("name", 6), ("factor", 7)]) rfl sc_scale_form.nd rfl rfl (sw_true rfl rfl rfl (by decide +kernel)) (pi_tup (pv 3)) (blkOk_by (N := ["number", "form", "scale", "terms", "constant", "scaled", "name", "factor"]) (sc := defScope s_scale_form) (by decide +kernel)) (fun _ _ _ _ _ => (pg_tupK (K := K) (n := 2) rfl (by rfl) (pgs_cons (pg_name (i := 6) sc_scale_form.nd rfl (Or.inl rfl)) (pgs_cons (pg_name (i := 7) sc_scale_form.nd rfl (Or.inl rfl)) pgs_nil)) (by rfl) (by rfl))) (fun _ _ _ _ _ => pts_nil) (fun _ _ _ _ _ => (pe_tup (pa_cons (pv 6) (pa_cons (pe_call G_multiply_ratios (hr.mono (by omega)) rfl m_multiply_ratios k_multiply_ratios b_multiply_ratios .nil pass0 (pa_cons (pv 2) (pa_cons (pv 7) pa_nil))) pa_nil)))))
      (pss_one (ps_ret (pe_tup (pa_cons (pe_callTy (call_tupF (K := K) rfl) (by rfl) T.n_tuple (by decide +kernel) (pa_cons (pv 5) pa_nil)) (pa_cons (pe_call G_multiply_ratios (hr.mono (by omega)) rfl m_multiply_ratios k_multiply_ratios b_multiply_ratios .nil pass0 (pa_cons (pv 2) (pa_cons (pv 4) pa_nil))) pa_nil))))))))), ?_⟩
    have rs := hx.red
    obtain ⟨d1, hd1, e1⟩ := hx
    refine ⟨_, rfl, x, d1, rfl, hd1, fun t m r H1 e s1 hr1 => ?_, fun e => by rw [e1] at e; cases e⟩
    obtain rfl : sc = (t, m) := Option.some.inj (e1.symm.trans e)
    refine ⟨_, rfl, _, _, hr1, .tup (saz _) (.cons (.int 0) (.cons (.int 1) .nil)), rfl, rfl, _, rfl, ?_⟩
    have ez : PyData.eqv (rat t m) (rat 0 1) = !decide (t ≠ 0) := by
      have z := zero_eqv rs
      rw [← z, Bool.not_not]
      rfl
    refine ite2 (fun c0 => ?_) (fun c0 => ?_)
    · have e0 : t = 0 := by
        have z := ez.symm.trans c0
        rw [Bool.not_eq_true', decide_eq_false_iff_not, Classical.not_not] at z
        exact z
      have es : ((t, m) : Int × Int) = (0, 1) := (top_zero rs).mp e0
      rw [es] at q
      refine ⟨_, (0, 1), rfl, ⟨rat 0 1, .tup (saz _) (.cons (.int 0) (.cons (.int 1) .nil)), numOf_rat red_zero⟩, fun r2 H2 s2 hf => ?_⟩
      have ec : mulz (0, 1) c = (0, 1) := mul_zero' gt.const.1
      rw [ec] at q
      exact q r2 H2 [] (s1.trans s2) hf (.nil red_zero (zero_sz (by omega))) fun y => by rw [qv_zero, cq_nil]; grind
    · have e0 : t ≠ 0 := by
        have z := ez.symm.trans (Bool.eq_false_iff.mpr c0)
        rw [Bool.not_eq_false', decide_eq_true_eq] at z
        exact z
      obtain ⟨a1, p1, xs1, c1, rfl, h1, hc1, n1, t1⟩ := fv
      refine ⟨_, rfl, a1, _, rfl, same_seqT s1 h1, rfl, .ref p1, _, rfl, c1, _, rfl, rfl, ?_⟩
      have lt1 := dps_len t1
      rw [List.length_map] at lt1
      have few := gt.few
      refine ⟨_, rfl, p1, rfl, ⟨_, (n1.same s1).sq⟩, fun D hD => ?_⟩
      refine lc_tup (K := K) (a := p1) (xs := xs1) (fun i H' => Same H1 H' ∧ ∃ ls : List V, ls.length = i ∧ H' D = some (.lst ls) ∧ DpAll K (hide D H') ls ((ts.take i).map fun u => termN u.1 (mulz (t, m) u.2))) ⟨same_new hD _, [], rfl, upd_same, .nil⟩ (fun i H' _ h => (n1.same (s1.trans h.1)).sq) ?_ ?_
      · rintro i x H2 hx ⟨s2, ls, hl, hls, hall⟩
        obtain ⟨dt, hdt, hdx⟩ := dps_get t1 hx
        rw [List.getElem?_map] at hdt
        obtain ⟨u, hu, rfl⟩ : ∃ u, ts[i]? = some u ∧ termN u.1 u.2 = dt := by
          cases z : ts[i]? with
          | none => rw [z] at hdt; cases hdt
          | some u => rw [z] at hdt; exact ⟨u, rfl, Option.some.inj hdt⟩
        have hum := List.mem_of_getElem? hu
        have hi := get_lt hu
        obtain ⟨ru, _, zu⟩ := gt.terms u hum
        have hdx2 : Dp K H2 x (.tuple [.str u.1, numD u.2]) := dp_same (s1.trans s2) _ _ hdx
        cases hdx2 with
        | @tup at_ zs_ _ hsz haz =>
          cases haz with
          | @cons n1_ _ _ _ hn haz =>
            cases haz with
            | @cons r1 _ _ _ hr2 haz =>
              cases haz
              cases hn
              refine ⟨_, _, rfl, hsz, rfl, _, _, rfl, _, _, rfl, rfl, rfl, _, rfl, _, rfl, _, rfl, r, r1, (t, m), u.2, j, k, rfl, dp_same s2 _ _ hr1, hr2, rs, ru, zs, zu, hjk, fun p H3 s3 hp3 => ⟨(by show 2 ≤ sizeLine; decide), fun p4 np4 => ?_⟩⟩
              have s4 := same_new np4 (.tup [.str u.1, .ref p])
              refine ⟨ls, s4 _ _ (s3 _ _ hls), small1000 (by omega), same_upd (s2.trans (s3.trans s4)) hD, ls ++ [.ref p4], by rw [List.length_append, hl]; rfl, upd_same, ?_⟩
              rw [take_more hu, List.map_append, hide_upd]
              refine dps_snoc (dps_same (hide_mono (s3.trans s4)) _ _ hall) (.tup (SqT.of (hide_at upd_same fun e => ?_)) (.cons (.str _) (.cons (dp_rat (hide_at (s4 _ _ hp3) fun e => ?_)) .nil)))
              · rw [e, s3 _ _ hls] at np4
                cases np4
              · rw [e, s3 _ _ hls] at hp3
                cases hp3
      · rintro H2 ⟨s2, ls, hl, hls, hall⟩
        rw [lt1, List.take_length] at hall
        refine ⟨_, rfl, D, ls, rfl, SqL.of hls, fun p4 o4 np4 od4 => ?_⟩
        have s4 := same_new np4 (.frz o4 (.tup ls))
        have s14 := s1.trans (s2.trans s4)
        have rc := gt.const
        refine ⟨_, rfl, _, rfl, r, c1, (t, m), c, j, k, rfl, dp_same (s2.trans s4) _ _ hr1, dp_same s14 _ _ hc1, rs, rc.1, zs, rc.2, hjk, fun pc H5 s5 hpc => ⟨(by show 2 ≤ sizeLine; decide), fun p6 np6 => ?_⟩⟩
        have s6 := same_new np6 (.tup [.ref p4, .ref pc])
        refine q _ _ _ (s14.trans (s5.trans s6)) ⟨p6, p4, ls, .ref pc, rfl, SqT.of upd_same, dp_rat (s6 _ _ hpc), ⟨o4, s6 _ _ (s5 _ _ upd_same), od4⟩, ?_⟩ (gt.scale rs e0 zs) fun y => cq_scale (t, m) rs (fun u hu => (gt.terms u hu).1) y
        rw [List.map_map]
        exact dps_same ((hide_sub D H2).trans (s4.trans (s5.trans s6))) _ _ hall
end

def spFactor (K : PySem.W.Frag) : Sp := fun vs H Q _ => ∃ (v : V) (x : Str) (ns : List Str) (k : Nat) (ts : Ts) (c : Int × Int), vs = [v, .str x] ∧ FormAt K H v ts c ∧ FormK ns k ts c ∧
  ∀ r H', Same H H' → Dp K H' r (numD (cz ts x)) → Q r H'
def spSubst (K : PySem.W.Frag) : Sp := fun vs H Q _ => ∃ (v u : V) (x : Str) (ns : List Str) (j k : Nat) (ts us : Ts) (c e : Int × Int), vs = [v, .str x, u] ∧ FormAt K H v ts c ∧ FormAt K H u us e ∧ FormK ns j ts c ∧ FormK ns k us e ∧ ns.length ≤ 60 ∧ 1 ≤ j ∧ 1 ≤ k ∧ j + (j + k) + 1 ≤ 7000 ∧
  ∀ r H' ws, Same H H' → FormAt K H' r ws (addz c (mulz (cz ts x) e)) → FormK ns (j + (j + k) + 1) ws (addz c (mulz (cz ts x) e)) → (∀ y, cq ws y = (if y = x then 0 else cq ts y) + cq ts x * cq us y) → Q r H'
theorem FormK.drop {ns : List Str} {k : Nat} {ts : Ts} {c : Int × Int} (f : FormK ns k ts c) (x : Str) : FormK ns k (ts.filter fun t => decide (t.1 ≠ x)) c where
  names := fun t ht => f.names t (List.mem_filter.mp ht).1
  terms := fun t ht => f.terms t (List.mem_filter.mp ht).1
  order := by
    have e : (ts.filter fun t => decide (t.1 ≠ x)).map (·.1) = (ts.map (·.1)).filter fun y => decide (y ≠ x) := by
      rw [List.filter_map]
      rfl
    rw [e]
    exact order_filter f.nodup (Bool.and_eq_true_iff.mp f.order).2 _
  const := f.const
theorem cq_drop (x y : Str) : ∀ ts : Ts, cq (ts.filter fun t => decide (t.1 ≠ x)) y = if y = x then 0 else cq ts y
  | [] => by
    show (0 : Rat) = if y = x then 0 else 0
    split <;> rfl
  | t :: ts => by
    have ih := cq_drop x y ts
    by_cases h : t.1 = x
    · rw [List.filter_cons_of_neg (by simp [h]), ih, cq_cons]
      by_cases e : y = x
      · rw [if_pos e, if_pos e]
      · rw [if_neg e, if_neg e, if_neg (fun z => e (by rw [← z, h]))]
    · rw [List.filter_cons_of_pos (by simp [h]), cq_cons, cq_cons, ih]
      by_cases e : t.1 = y
      · rw [if_pos e, if_neg (fun z => h (by rw [e, z])), if_pos e]
      · rw [if_neg e]
        by_cases g : y = x
        · rw [if_pos g, if_pos g]
        · rw [if_neg g, if_neg g, if_neg e]
section
variable {P : Program} {w : World} {K : PySem.W.Frag} {mg : Str → Option Value} {base : Heap}
theorem ok_factor_in (T : Bt mg) (Tt : Ut4 K mg) (Td : mg "dict" = none) (D : Df K mg "factor_in" s_factor_in ["form", "name"]) : Kn P w K mg base CX0 "factor_in" 1 ["form", "name"] (spFactor K) := by
  obtain ⟨az, hz, saz⟩ := Tt.g_zero
  obtain ⟨f, fd, F, hm, hb⟩ := D
  refine ⟨f, fd, F.ok sc_factor_in (fun vs H Q E h => ?_) (fun cdv A outer s H vs Q E hr h => ?_), hm, F.kp, hb⟩
  · obtain ⟨v, x, ns, k, ts, c, rfl, _⟩ := h
    rfl
  · obtain ⟨v, x, ns, k, ts, c, rfl, fv, gt, q⟩ := h
    refine ⟨_, (pss_one (ps_ret (pe_dget2 (hu_of hr) (pe_callTy (call_dictT (K := K) rfl rfl) (by rfl) Td (by decide +kernel) (pa_cons (pe_ix ix_tup (pv 0) pe_int (fun _ _ => rfl)) pa_nil)) (pv 1) (pe_glob (v := .ref az) rfl hz rfl) ⟨rfl, by rfl, by rfl, by rfl⟩))), ?_⟩
    obtain ⟨a1, p1, xs1, c1, rfl, h1, hc1, n1, t1⟩ := fv
    obtain ⟨ps, kvs, rfl, hpair, hk, hat⟩ := pairs_at t1
    refine ⟨_, rfl, a1, _, _, .ref p1, rfl, rfl, h1, at_of (j := 0) rfl rfl, p1, ps, kvs, rfl, n1, hpair, fun d hd => ?_⟩
    have D0 := DZ.make (K := K) gt.nodup hd hk hat
    obtain ⟨o, hget, hzero, _⟩ := D0.get x
    refine ⟨d, rfl, .inl ⟨_, .inl upd_same⟩, _, rfl, o, hget, ?_⟩
    exact q _ _ (same_new hd _) (hzero (V.ref az) (.tup (saz _) (.cons (.int 0) (.cons (.int 1) .nil))))
theorem ok_substituted (T : Bt mg) (GA : Kn P w K mg base CX0 "add_forms" 3 ["one", "other"] (spAddF K)) (GS : Kn P w K mg base CX0 "scale_form" 5 ["number", "form"] (spScaleF K))
    (GF : Kn P w K mg base CX0 "factor_in" 1 ["form", "name"] (spFactor K)) (D : Df K mg "substituted" s_substituted ["form", "name", "other"]) : Kn P w K mg base CX0 "substituted" 6 ["form", "name", "other"] (spSubst K) := by
  obtain ⟨f, fd, F, hm, hb⟩ := D
  obtain ⟨f_factor_in, fd_factor_in, G_factor_in, m_factor_in, k_factor_in, b_factor_in⟩ := GF
  obtain ⟨f_add_forms, fd_add_forms, G_add_forms, m_add_forms, k_add_forms, b_add_forms⟩ := GA
  obtain ⟨f_scale_form, fd_scale_form, G_scale_form, m_scale_form, k_scale_form, b_scale_form⟩ := GS
  refine ⟨f, fd, F.ok sc_substituted (fun vs H Q E h => ?_) (fun cdv A outer s H vs Q E hr h => ?_), hm, F.kp, hb⟩
  · obtain ⟨v, u, x, ns, j, k, ts, us, c, e, rfl, _⟩ := h
    rfl
  · obtain ⟨v, u, x, ns, j, k, ts, us, c, e, rfl, fv, fu, gt, gu, hns, j1, k1, hjk, q⟩ := h
    refine ⟨_, (pss_cons (ps_asg (pv 0) (pg_tup (by rfl) (pgs_cons (pg_name (i := 3) sc_substituted.nd rfl (Or.inl rfl)) (pgs_cons (pg_name (i := 4) sc_substituted.nd rfl (Or.inl rfl)) pgs_nil))))
      (pss_cons (ps_set (i := 5) sc_substituted.nd rfl (Or.inl rfl) (pe_call G_factor_in (hr.mono (by omega)) rfl m_factor_in k_factor_in b_factor_in .nil pass0 (pa_cons (pv 0) (pa_cons (pv 1) pa_nil))))
      (pss_cons (ps_set (i := 6) sc_substituted.nd rfl (Or.inl rfl) (pe_callTy (call_tupF (K := K) rfl) (by rfl) T.n_tuple (by decide +kernel) (pa_cons (pe_lc (own := [("term", 7)]) rfl sc_substituted.nd (pi_tup (pv 3)) (blkOk_by (N := ["form", "name", "other", "terms", "constant", "factor", "rest", "term"]) (sc := defScope s_substituted) (by decide +kernel)) (fun _ _ _ _ _ => (pg_name (i := 7) sc_substituted.nd rfl (Or.inl rfl))) (fun _ _ _ _ _ => (pts_one (pt_cmpR op_ne (pe_ix (ix_tupK (K := K) rfl) (pv 7) pe_int (fun _ _ => rfl)) (pv 1) (nomark _)))) (fun _ _ _ _ _ => (pv 7))) pa_nil)))
      (pss_one (ps_ret (pe_call G_add_forms (hr.mono (by omega)) rfl m_add_forms k_add_forms b_add_forms .nil pass0 (pa_cons (pe_tup (pa_cons (pv 6) (pa_cons (pv 4) pa_nil))) (pa_cons (pe_call G_scale_form (hr.mono (by omega)) rfl m_scale_form k_scale_form b_scale_form .nil pass0 (pa_cons (pv 5) (pa_cons (pv 2) pa_nil))) pa_nil)))))))), ?_⟩
    obtain ⟨a1, p1, xs1, c1, rfl, h1, hc1, n1, t1⟩ := fv
    refine ⟨_, rfl, a1, _, rfl, h1, rfl, .ref p1, _, rfl, c1, _, rfl, rfl, ?_⟩
    refine ⟨_, rfl, _, rfl, _, x, ns, j, ts, c, rfl, ⟨a1, p1, xs1, c1, rfl, h1, hc1, n1, t1⟩, gt, fun fv H1 s0 hf => ?_⟩
    have lt1 := dps_len t1
    rw [List.length_map] at lt1
    have few := gt.few
    refine ⟨_, rfl, p1, rfl, ⟨_, (n1.same s0).sq⟩, fun D hD => ?_⟩
    refine lc_tup (K := K) (a := p1) (xs := xs1) (fun i H' => Same H1 H' ∧ ∃ ls : List V, ls.length ≤ i ∧ H' D = some (.lst ls) ∧ DpAll K H ls (((ts.take i).filter fun t => decide (t.1 ≠ x)).map fun u => termN u.1 u.2)) ⟨same_new hD _, [], Nat.le_refl _, upd_same, .nil⟩ (fun i H' _ h => (n1.same (s0.trans h.1)).sq) ?_ ?_
    · rintro i y H2 hx ⟨s2, ls, hl, hls, hall⟩
      obtain ⟨dt, hdt, hdx⟩ := dps_get t1 hx
      rw [List.getElem?_map] at hdt
      obtain ⟨t, ht, rfl⟩ : ∃ t, ts[i]? = some t ∧ termN t.1 t.2 = dt := by
        cases z : ts[i]? with
        | none => rw [z] at hdt; cases hdt
        | some t => rw [z] at hdt; exact ⟨t, rfl, Option.some.inj hdt⟩
      have hi := get_lt ht
      have hdx2 : Dp K H2 y (.tuple [.str t.1, numD t.2]) := dp_same (s0.trans s2) _ _ hdx
      cases hdx2 with
      | @tup at_ zs_ _ hsz haz =>
        cases haz with
        | @cons n1_ _ _ _ hn haz =>
          cases hn
          refine ⟨rfl, _, rfl, at_, _, _, .str t.1, rfl, rfl, hsz, at_of (j := 0) rfl rfl, _, rfl, rfl, _, rfl, ?_⟩
          have eb : (!decide (V.str t.1 = V.str x)) = decide (t.1 ≠ x) := by
            rw [Bool.eq_iff_iff, Bool.not_eq_true', decide_eq_false_iff_not, decide_eq_true_eq]
            exact ⟨fun h e => h (by rw [e]), fun h e => h (by injection e)⟩
          refine ite2 (fun m => ?_) (fun m => ?_)
          · have m2 := eb.symm.trans m
            refine ⟨_, rfl, ls, hls, small1000 (by omega), same_upd s2 hD, ls ++ [.ref at_], by rw [List.length_append]; show ls.length + 1 ≤ i + 1; omega, upd_same, ?_⟩
            rw [take_more ht, List.filter_append, List.filter_cons_of_pos (by exact m2), List.filter_nil, List.map_append]
            exact dps_snoc hall hdx
          · have m2 := eb.symm.trans (Bool.eq_false_iff.mpr m)
            refine ⟨s2, ls, by omega, hls, ?_⟩
            rw [take_more ht, List.filter_append, List.filter_cons_of_neg (by rw [m2]; exact Bool.false_ne_true), List.filter_nil, List.append_nil]
            exact hall
    · rintro H2 ⟨s2, ls, hl, hls, hall⟩
      rw [lt1, List.take_length] at hall
      refine ⟨D, ls, rfl, SqL.of hls, fun p4 o4 np4 od4 => ?_⟩
      have s4 := same_new np4 (.frz o4 (.tup ls))
      have s04 := s0.trans (s2.trans s4)
      refine ⟨_, rfl, _, rfl, (by show 2 ≤ sizeLine; decide), fun p6 np6 => ?_⟩
      have s6 := same_new np6 (.tup [.ref p4, c1])
      have s06 := s04.trans s6
      have cok := gt.cz_ok j1 x
      refine ⟨_, rfl, _, rfl, fv, u, ns, j, k, cz ts x, us, e, rfl, ⟨numD (cz ts x), dp_same (s2.trans (s4.trans s6)) _ _ hf, numOf_rat cok.1⟩, cok.2, fu.same s06, gu, hns, k1, by omega, fun r2 H5 ws s5 fw gw hw => ?_⟩
      refine ⟨_, r2, ns, j, j + k, (ts.filter fun t => decide (t.1 ≠ x)), ws, c, mulz (cz ts x) e, rfl, ⟨p6, p4, ls, c1, rfl, SqT.of (s5 _ _ upd_same), dp_same (s06.trans s5) _ _ hc1, ⟨o4, s5 _ _ (s6 _ _ upd_same), od4⟩, dps_same (s06.trans s5) _ _ hall⟩, fw, gt.drop x, gw, hns, j1, by omega, hjk, fun r7 H7 zs s7 fz gz hzs => ?_⟩
      refine q r7 H7 zs (s06.trans (s5.trans s7)) fz gz fun y => ?_
      rw [hzs, cq_drop, hw, qv_cz]
end

theorem op_notInDict {X : Cx} (hu : X.A.units + 1 < cLine) : OpR X (compareOp .NotIn) (fun x y H Q => ∃ a o, y = .ref a ∧ DGet H a x o ∧ Q (.bl (!o.isSome)) H) := by
  intro pins s σ H x y v u Q I rx ry h
  obtain ⟨a, o, rfl, g, q⟩ := h
  cases ry
  exact d_notIn hu I g rx fun s' J => ⟨.bl _, H, J, rfl, q⟩
def rDictS (K : PySem.W.Frag) : List V → Hp → VK → Prop := fun xs H Q => ∃ (a : Addr) (ps : List Addr) (kvs : List (Key × V)), xs = [.ref a] ∧ (SqL K H a (ps.map V.ref) ∨ NdT H a (ps.map V.ref)) ∧ Paired (fun p kv => SqT K H p [kV kv.1, kv.2]) ps kvs ∧
  ∀ p, H p = none → Q (.ref p) (upd H p (.dK (mergeK [] kvs)))
theorem call_dictS {X : Cx} {K : PySem.W.Frag} (e : X.K = K) (hc : X.calm = true) : CallR X (.type "dict") (rDictS K) := by
  subst e
  intro pins s σ H xs us Q I r h
  obtain ⟨a, ps, kvs, e, hs, hp, q⟩ := h
  rcases hs with hs | hs
  · exact call_dictP hc pins s σ H xs us Q I r ⟨a, ps, kvs, e, hs, hp, q⟩
  · exact call_dictT rfl hc pins s σ H xs us Q I r ⟨a, ps, kvs, e, hs, hp, q⟩
/-- a sequence of pairs of names and numbers, each name once -/
def ValsAt (K : PySem.W.Frag) (H : Hp) (t : Addr) (ks : List Str) (zf : Str → Int × Int) : Prop := ∃ (ps : List Addr) (kvs : List (Key × V)), (SqL K H t (ps.map V.ref) ∨ NdT H t (ps.map V.ref)) ∧ Paired (fun p kv => SqT K H p [kV kv.1, kv.2]) ps kvs ∧
  kvs.map (·.1) = ks.map Sum.inr ∧ ks.Nodup ∧ ∀ x ∈ ks, ∃ v, valV kvs (Sum.inr x) = some v ∧ Nv K H v (zf x)
def spValueAt (K : PySem.W.Frag) (C : Addr) : Sp := fun vs H Q E => ∃ (v : V) (t : Addr) (ns : List Str) (k m : Nat) (ts : Ts) (c : Int × Int) (ks : List Str) (zf : Str → Int × Int), vs = [v, .ref t] ∧ FormAt K H v ts c ∧ FormK ns k ts c ∧ ValsAt K H t ks zf ∧ (∀ x ∈ ks, Red (zf x) ∧ Sz m (zf x)) ∧
  k + ns.length * (k + m + 1) ≤ 7000 ∧ ns.length ≤ 60 ∧ ((∀ u ∈ ts, u.1 ∈ ks) → ∀ r H', Same H H' → Dp K H' r (numD (worthz zf ts c)) → Q r H') ∧
  ∀ (i : Nat) (u : Str × (Int × Int)), ts[i]? = some u → (∀ z ∈ ts.take i, z.1 ∈ ks) → u.1 ∉ ks → ∀ dx H', Same H H' → H' dx = some (.xd [("name", .str u.1)]) → E (.ref C) (some dx) H'
section
variable {P : Program} {w : World} {K : PySem.W.Frag} {mg : Str → Option Value} {base : Heap}
theorem ok_errinitN {x : Str} {C f : Addr} {fd : FuncData} (F : Fun K "__init__" x s_UnknownCell_init f fd) (ox : OexC K C) (no : PySem.W.findIn K (.ref C) "name" = some none) : FnOk P w K mg base CX0 1 f fd ["self", "name"] (spErrInit C "name") := by
  refine F.ok sc_UnknownCell_init (fun vs H Q E h => ?_) (fun cdv A outer s H vs Q E hr h => ?_)
  · obtain ⟨e, v, rfl, _⟩ := h
    rfl
  · obtain ⟨e, v, rfl, he, q⟩ := h
    refine ⟨_, pss_one (ps_ost (pv 0) (pv 1)), ?_⟩
    exact ⟨_, rfl, _, rfl, e, C, rfl, ox, no, .inl ⟨he, fun dx h1 h2 => q dx h1 h2⟩⟩
theorem ok_value_at {C Ci : Addr} (T : Bt mg) (Td : mg "dict" = none) (Ti : ErrF P w K mg base "UnknownCell" "name" C) (GA : Kn P w K mg base CX0 "add_ratios" 2 ["one", "other"] (spBinR K addz)) (GM : Kn P w K mg base CX0 "multiply_ratios" 2 ["one", "other"] (spBinR K mulz))
    (GR : Kn P w K mg base (L2.CX P w) "as_ratio" 3 ["value"] (spAsRatio K Ci)) (D : Df K mg "value_at" s_value_at ["form", "values"]) : Kn P w K mg base (L2.CX P w) "value_at" 4 ["form", "values"] (spValueAt K C) := by
  obtain ⟨f, fd, F, hm, hb⟩ := D
  obtain ⟨f_add_ratios, fd_add_ratios, G_add_ratios, m_add_ratios, k_add_ratios, b_add_ratios⟩ := GA
  obtain ⟨f_multiply_ratios, fd_multiply_ratios, G_multiply_ratios, m_multiply_ratios, k_multiply_ratios, b_multiply_ratios⟩ := GM
  obtain ⟨f_as_ratio, fd_as_ratio, G_as_ratio, m_as_ratio, k_as_ratio, b_as_ratio⟩ := GR
  obtain ⟨fI, fdI, iC, tI, F1, b1⟩ := Ti.ini
  refine ⟨f, fd, F.okX sc_value_at (fun vs H Q E h => ?_) (fun cdv A outer s H vs Q E hr h => ?_), hm, F.kp, hb⟩
  · obtain ⟨v, t, ns, k, m, ts, c, ks, zf, rfl, _⟩ := h
    rfl
  · obtain ⟨v, t, ns, k, m, ts, c, ks, zf, rfl, fv, gt, ⟨ps, kvs, hseq, hpair, hk, nd, hval⟩, hz, hsz, hns, q1, q2⟩ := h
    refine ⟨_, (pss_cons (ps_set (i := 2) sc_value_at.nd rfl (Or.inl rfl) (pe_callTy (call_dictS (K := K) rfl rfl) (by rfl) Td (by decide +kernel) (pa_cons (pv 1) pa_nil)))
      (pss_cons (ps_asg (pv 0) (pg_tup (by rfl) (pgs_cons (pg_name (i := 3) sc_value_at.nd rfl (Or.inl rfl)) (pgs_cons (pg_name (i := 4) sc_value_at.nd rfl (Or.inl rfl)) pgs_nil))))
      (pss_cons (ps_for (passes_of rfl) rfl (pi_tup (pv 3)) (pg_tup (by rfl) (pgs_cons (pg_name (i := 5) sc_value_at.nd rfl (Or.inl rfl)) (pgs_cons (pg_name (i := 6) sc_value_at.nd rfl (Or.inl rfl)) pgs_nil)))
        (pss_cons (ps_if (pt_cmpR (op_notInDict (hu_of hr)) (pv 5) (pv 2) (by rfl)) (pss_one (ps_raise rfl (takes_of rfl rfl rfl rfl) (pmk_oex Ti.ox iC tI F1 (hr.mono (by omega)) b1 .nil pass0 rfl Ti.gC (pa_cons (pv 5) pa_nil)))) pss_nil)
      (pss_one (ps_set (i := 4) sc_value_at.nd rfl (Or.inl rfl) (pe_call G_add_ratios (hr.mono (by omega)) rfl m_add_ratios k_add_ratios b_add_ratios .nil pass0 (pa_cons (pv 4) (pa_cons (pe_call G_multiply_ratios (hr.mono (by omega)) rfl m_multiply_ratios k_multiply_ratios b_multiply_ratios .nil pass0 (pa_cons (pv 6) (pa_cons (pe_call G_as_ratio (hr.mono (by omega)) rfl m_as_ratio k_as_ratio b_as_ratio .nil passL (pa_cons (pe_dget (hu_of hr) (pv 2) (pv 5) (fun _ _ => rfl)) pa_nil)) pa_nil))) pa_nil)))))))
      (pss_one (ps_ret (pv 4)))))), ?_⟩
    obtain ⟨a1, p1, xs1, c1, rfl, h1, hc1, n1, t1⟩ := fv
    refine ⟨_, rfl, t, ps, kvs, rfl, hseq, hpair, fun d hd => ?_⟩
    have s0 := same_new hd (.dK (mergeK [] kvs))
    have nk : (kvs.map (·.1)).Nodup := by
      rw [hk]
      exact List.Pairwise.map _ (fun a b h e => h (by injection e)) nd
    rw [merge_new (kvs := []) nk, List.nil_append] at s0 ⊢
    have hd0 : (upd H d (.dK kvs)) d = some (.dK kvs) := upd_same
    refine ⟨_, rfl, a1, _, rfl, same_seqT s0 h1, rfl, .ref p1, _, rfl, c1, _, rfl, rfl, ?_⟩
    have lt1 := dps_len t1
    rw [List.length_map] at lt1
    have few := gt.few
    refine ⟨_, rfl, p1, rfl, ⟨_, (n1.same s0).sq⟩, ?_⟩
    refine for_tup (K := K) (a := p1) (xs := xs1) (fun i σ H' => ∃ vt o5 o6, σ = [some (.ref a1), some (.ref t), some (.ref d), some (.ref p1), some vt, o5, o6] ∧ Same (upd H d (.dK kvs)) H' ∧ (∀ z ∈ ts.take i, z.1 ∈ ks) ∧ Dp K H' vt (numD (worthz zf (ts.take i) c)) ∧ Red (worthz zf (ts.take i) c) ∧ Sz (k + i * (k + m + 1)) (worthz zf (ts.take i) c))
      ⟨_, none, none, rfl, Same.refl _, (fun z hz => by cases hz), dp_same s0 _ _ hc1, gt.const.1, by rw [Nat.zero_mul, Nat.add_zero]; exact gt.const.2⟩ (fun i σ H' _ h => by obtain ⟨_, _, _, _, h, _⟩ := h; exact (n1.same (s0.trans h)).sq) ?_ ?_
    · rintro i x σ H1 hx ⟨vt, o5, o6, rfl, s1, hin, hvt, rw_, zw⟩
      obtain ⟨dt, hdt, hdx⟩ := dps_get t1 hx
      rw [List.getElem?_map] at hdt
      obtain ⟨u, hu, rfl⟩ : ∃ u, ts[i]? = some u ∧ termN u.1 u.2 = dt := by
        cases z : ts[i]? with
        | none => rw [z] at hdt; cases hdt
        | some u => rw [z] at hdt; exact ⟨u, rfl, Option.some.inj hdt⟩
      have hi := get_lt hu
      obtain ⟨ru, _, zu⟩ := gt.terms u (List.mem_of_getElem? hu)
      have s01 := s0.trans s1
      have hdx2 : Dp K H1 x (.tuple [.str u.1, numD u.2]) := dp_same s01 _ _ hdx
      have hd1 := s1 _ _ hd0
      cases hdx2 with
      | @tup at_ zs_ _ hsz_ haz =>
        cases haz with
        | @cons n1_ _ _ _ hn haz =>
          cases haz with
          | @cons r1 _ _ _ hr1 haz =>
            cases haz
            cases hn
            refine ⟨_, _, rfl, hsz_, rfl, _, _, rfl, _, _, rfl, rfl, ?_⟩
            have dg : DGet H1 d (.str u.1) (valV kvs (Sum.inr u.1)) := .inl ⟨kvs, Sum.inr u.1, .inl hd1, rfl, rfl⟩
            refine ⟨_, rfl, _, rfl, d, _, rfl, dg, _, rfl, ?_⟩
            refine ite2 (fun c0 => ?_) (fun c0 => ?_)
            · have hno : u.1 ∉ ks := fun hm => by
                obtain ⟨v, e, _⟩ := hval _ hm
                rw [e] at c0
                cases c0
              have q3 := q2 i u hu hin hno
              refine ⟨_, rfl, (by show 1 ≤ 1000; decide), fun a na => ?_⟩
              refine ⟨a, .str u.1, rfl, upd_same, fun dx hdx nx => ⟨rfl, dx, [("name", .str u.1)], upd_same, ?_, ?_, ?_⟩⟩
              · rw [upd_ne nx, upd_same]
              · rw [upd_ne nx] at hdx
                exact hdx
              · rw [upd_ne nx] at hdx
                refine q3 dx _ (s01.trans fun b o hbo => ?_) upd_same
                have n1 : b ≠ a := ne_of_none hbo na
                have n2 : b ≠ dx := ne_of_none hbo hdx
                rw [upd_ne n2, del_ne n1, upd_ne n1, upd_ne n2, upd_ne n1]
                exact hbo
            · have hm : u.1 ∈ ks := by
                by_cases hm : u.1 ∈ ks
                · exact hm
                · exact absurd (by rw [valV_keys hk hm]; rfl) c0
              obtain ⟨v, e, hv⟩ := hval _ hm
              obtain ⟨rz, zz⟩ := hz _ hm
              obtain ⟨d1, hd1v, e1⟩ := hv.same s01
              rw [e] at dg
              have bits : k + i * (k + m + 1) + (k + m) + 1 ≤ 7000 := by
                have z : (i + 1) * (k + m + 1) ≤ ns.length * (k + m + 1) := Nat.mul_le_mul_right _ (by omega)
                rw [Nat.succ_mul] at z
                omega
              refine ⟨_, rfl, _, rfl, _, rfl, _, rfl, d, v, rfl, dg, v, d1, rfl, hd1v, fun t2 m2 r H2 e2 s2 hr2 => ?_, fun e2 => by rw [e1] at e2; cases e2⟩
              have ezf : zf u.1 = (t2, m2) := Option.some.inj (e1.symm.trans e2)
              refine ⟨r1, r, u.2, (t2, m2), k, m, rfl, dp_same s2 _ _ hr1, hr2, ru, by rw [← ezf]; exact rz, zu, by rw [← ezf]; exact zz, by omega, fun p3 H3 s3 hp3 => ?_⟩
              have rm := mul_red ru (by rw [← ezf]; exact rz : Red (t2, m2))
              refine ⟨vt, .ref p3, _, mulz u.2 (t2, m2), k + i * (k + m + 1), k + m, rfl, dp_same (s2.trans s3) _ _ hvt, dp_rat hp3, rw_, rm, zw, mul_sz zu (by rw [← ezf]; exact zz), bits, fun p4 H4 s4 hp4 => ?_⟩
              have ew : worthz zf (ts.take (i + 1)) c = addz (worthz zf (ts.take i) c) (mulz u.2 (t2, m2)) := by
                rw [take_more hu, worth_snoc, ezf]
              refine ⟨_, _, _, rfl, s1.trans (s2.trans (s3.trans s4)), fun z hz' => ?_, ?_, ?_, ?_⟩
              · rw [take_more hu] at hz'
                rcases List.mem_append.mp hz' with h | h
                · exact hin z h
                · rw [List.mem_singleton.mp h]
                  exact hm
              · rw [ew]
                exact dp_rat hp4
              · rw [ew]
                exact add_red rw_ rm
              · rw [ew]
                have z := add_sz zw (mul_sz zu (by rw [← ezf]; exact zz : Sz m (t2, m2)))
                refine z.mono ?_
                rw [Nat.succ_mul]
                omega
    · rintro σ H1 ⟨vt, o5, o6, rfl, s1, hin, hvt, _, _⟩
      rw [lt1, List.take_length] at hvt hin
      exact ⟨_, rfl, q1 hin vt H1 (s0.trans s1) hvt⟩
end

/-! ### k05: the law's own sums and products -/
def spWorth (K : PySem.W.Frag) : Sp := fun vs H Q _ => ∃ (v : V) (d : Addr) (ns : List Str) (k m : Nat) (ts : Ts) (c : Int × Int) (ks : List Str) (zf : Str → Int × Int), vs = [v, .ref d] ∧ FormAt K H v ts c ∧ FormK ns k ts c ∧ DZ K H d ks zf ∧ (∀ x ∈ ns, x ∈ ks) ∧ (∀ x ∈ ks, Red (zf x) ∧ Sz m (zf x)) ∧
  k + ns.length * (k + m + 1) ≤ 7000 ∧ ns.length ≤ 60 ∧ ∀ r H', Same H H' → Dp K H' r (numD (worthz zf ts c)) → Q r H'
def spJoint (K : PySem.W.Frag) : Sp := fun vs H Q _ => ∃ (v u : V) (ns : List Str) (j k : Nat) (ts us : Ts) (c e : Int × Int), vs = [v, u] ∧ FormAt K H v ts c ∧ FormAt K H u us e ∧ FormK ns j ts c ∧ FormK ns k us e ∧ ns.length ≤ 6 ∧ 1 ≤ j ∧ 1 ≤ k ∧ j + k + 1 ≤ 7000 ∧
  ∀ r H' ws, Same H H' → FormAt K H' r ws (addz c e) → FormK ns (j + k + 1) ws (addz c e) → (∀ x, cq ws x = cq ts x + cq us x) → Q r H'
def spScaled (K : PySem.W.Frag) : Sp := fun vs H Q _ => ∃ (x v : V) (ns : List Str) (j k : Nat) (s : Int × Int) (ts : Ts) (c : Int × Int), vs = [x, v] ∧ Dp K H x (numD s) ∧ Red s ∧ Sz j s ∧ FormAt K H v ts c ∧ FormK ns k ts c ∧ ns.length ≤ 6 ∧ 1 ≤ k ∧ j + k + 1 ≤ 7000 ∧
  ∀ r H' ws, Same H H' → FormAt K H' r ws (mulz s c) → FormK ns (j + k) ws (mulz s c) → (∀ y, cq ws y = qv s * cq ts y) → Q r H'
section
variable {P : Program} {w : World} {K : PySem.W.Frag} {mg : Str → Option Value} {base : Heap}
theorem ok_plus (GR : Kn P w K mg base CX0 "_law_ratio" 2 ["_law_top", "_law_bottom"] spLRatio) (D : Df K mg "_law_plus" s_l_plus ["_law_one", "_law_other"]) : Kn P w K mg base CX0 "_law_plus" 3 ["_law_one", "_law_other"] (spBinR K addz) := by
  obtain ⟨f, fd, F, hm, hb⟩ := D
  obtain ⟨f_l_ratio, fd_l_ratio, G_l_ratio, m_l_ratio, k_l_ratio, b_l_ratio⟩ := GR
  refine ⟨f, fd, F.ok sc_l_plus (fun vs H Q E h => ?_) (fun cdv A outer s H vs Q E hr h => ?_), hm, F.kp, hb⟩
  · obtain ⟨x, y, a, b, j, k, rfl, _⟩ := h
    rfl
  · obtain ⟨x, y, a, b, j, k, rfl, hx, hy, ra, rb, sa, sb, hjk, q⟩ := h
    have j0 := sa.pos ra
    have k0 := sb.pos rb
    refine ⟨_, (pss_one (ps_ret (pe_call G_l_ratio (hr.mono (by omega)) rfl m_l_ratio k_l_ratio b_l_ratio .nil pass0 (pa_cons (pe_op op_add (pe_op op_mulW (pe_ix ix_tup (pv 0) pe_int (fun _ _ => rfl)) (pe_ix ix_tup (pv 1) pe_int (fun _ _ => rfl))) (pe_op op_mulW (pe_ix ix_tup (pv 1) pe_int (fun _ _ => rfl)) (pe_ix ix_tup (pv 0) pe_int (fun _ _ => rfl)))) (pa_cons (pe_op op_mulW (pe_ix ix_tup (pv 0) pe_int (fun _ _ => rfl)) (pe_ix ix_tup (pv 1) pe_int (fun _ _ => rfl))) pa_nil))))), ?_⟩
    obtain ⟨p1, rfl, hp1⟩ := dp_rat_inv hx
    obtain ⟨p2, rfl, hp2⟩ := dp_rat_inv hy
    refine ⟨_, rfl, p1, _, _, .int a.1, rfl, rfl, hp1, rfl, _, rfl, p2, _, _, .int b.2, rfl, rfl, hp2, rfl, _, _, rfl, rfl, mulW_of sa.1 sb.2 j0 k0 hjk, ?_⟩
    refine ⟨_, rfl, p2, _, _, .int b.1, rfl, rfl, hp2, rfl, _, rfl, p1, _, _, .int a.2, rfl, rfl, hp1, rfl, _, _, rfl, rfl, mulW_of sb.1 sa.2 k0 j0 (by omega), _, _, rfl, rfl, ?_⟩
    refine ⟨_, rfl, p1, _, _, .int a.2, rfl, rfl, hp1, rfl, _, rfl, p2, _, _, .int b.2, rfl, rfl, hp2, rfl, _, _, rfl, rfl, mulW_of sa.2 sb.2 j0 k0 hjk, ?_⟩
    exact ⟨_, _, rfl, mne ra rb, to8000 (lt_mul sa.2 sb.2) (by omega), fun p H' s h => q p H' s h⟩
theorem ok_times (GR : Kn P w K mg base CX0 "_law_ratio" 2 ["_law_top", "_law_bottom"] spLRatio) (D : Df K mg "_law_times" s_l_times ["_law_one", "_law_other"]) : Kn P w K mg base CX0 "_law_times" 3 ["_law_one", "_law_other"] (spBinR K mulz) := by
  obtain ⟨f, fd, F, hm, hb⟩ := D
  obtain ⟨f_l_ratio, fd_l_ratio, G_l_ratio, m_l_ratio, k_l_ratio, b_l_ratio⟩ := GR
  refine ⟨f, fd, F.ok sc_l_times (fun vs H Q E h => ?_) (fun cdv A outer s H vs Q E hr h => ?_), hm, F.kp, hb⟩
  · obtain ⟨x, y, a, b, j, k, rfl, _⟩ := h
    rfl
  · obtain ⟨x, y, a, b, j, k, rfl, hx, hy, ra, rb, sa, sb, hjk, q⟩ := h
    have j0 := sa.pos ra
    have k0 := sb.pos rb
    refine ⟨_, (pss_one (ps_ret (pe_call G_l_ratio (hr.mono (by omega)) rfl m_l_ratio k_l_ratio b_l_ratio .nil pass0 (pa_cons (pe_op op_mulW (pe_ix ix_tup (pv 0) pe_int (fun _ _ => rfl)) (pe_ix ix_tup (pv 1) pe_int (fun _ _ => rfl))) (pa_cons (pe_op op_mulW (pe_ix ix_tup (pv 0) pe_int (fun _ _ => rfl)) (pe_ix ix_tup (pv 1) pe_int (fun _ _ => rfl))) pa_nil))))), ?_⟩
    obtain ⟨p1, rfl, hp1⟩ := dp_rat_inv hx
    obtain ⟨p2, rfl, hp2⟩ := dp_rat_inv hy
    refine ⟨_, rfl, p1, _, _, .int a.1, rfl, rfl, hp1, rfl, _, rfl, p2, _, _, .int b.1, rfl, rfl, hp2, rfl, _, _, rfl, rfl, mulW_of sa.1 sb.1 j0 k0 hjk, ?_⟩
    refine ⟨_, rfl, p1, _, _, .int a.2, rfl, rfl, hp1, rfl, _, rfl, p2, _, _, .int b.2, rfl, rfl, hp2, rfl, _, _, rfl, rfl, mulW_of sa.2 sb.2 j0 k0 hjk, ?_⟩
    exact ⟨_, _, rfl, mne ra rb, to8000 (lt_mul sa.2 sb.2) (by omega), fun p H' s h => q p H' s h⟩
theorem ok_worth (GP : Kn P w K mg base CX0 "_law_plus" 3 ["_law_one", "_law_other"] (spBinR K addz)) (GT : Kn P w K mg base CX0 "_law_times" 3 ["_law_one", "_law_other"] (spBinR K mulz)) (D : Df K mg "_law_worth" s_l_worth ["_law_form_here", "_law_values"]) :
    Kn P w K mg base CX0 "_law_worth" 4 ["_law_form_here", "_law_values"] (spWorth K) := by
  obtain ⟨f, fd, F, hm, hb⟩ := D
  obtain ⟨f_l_plus, fd_l_plus, G_l_plus, m_l_plus, k_l_plus, b_l_plus⟩ := GP
  obtain ⟨f_l_times, fd_l_times, G_l_times, m_l_times, k_l_times, b_l_times⟩ := GT
  refine ⟨f, fd, F.ok sc_l_worth (fun vs H Q E h => ?_) (fun cdv A outer s H vs Q E hr h => ?_), hm, F.kp, hb⟩
  · obtain ⟨v, d, ns, k, m, ts, c, ks, zf, rfl, _⟩ := h
    rfl
  · obtain ⟨v, d, ns, k, m, ts, c, ks, zf, rfl, fv, gt, D0, hsub, hz, hsz, hns, q⟩ := h
    refine ⟨_, (pss_cons (ps_set (i := 2) sc_l_worth.nd rfl (Or.inl rfl) (pe_ix ix_tup (pv 0) pe_int (fun _ _ => rfl)))
      (pss_cons (ps_for PassesOwn.never rfl (pi_tup (pe_ix ix_tup (pv 0) pe_int (fun _ _ => rfl))) (pg_tup (by rfl) (pgs_cons (pg_name (i := 3) sc_l_worth.nd rfl (Or.inl rfl)) (pgs_cons (pg_name (i := 4) sc_l_worth.nd rfl (Or.inl rfl)) pgs_nil)))
        (pss_one (ps_set (i := 2) sc_l_worth.nd rfl (Or.inl rfl) (pe_call G_l_plus (hr.mono (by omega)) rfl m_l_plus k_l_plus b_l_plus .nil pass0 (pa_cons (pv 2) (pa_cons (pe_call G_l_times (hr.mono (by omega)) rfl m_l_times k_l_times b_l_times .nil pass0 (pa_cons (pv 4) (pa_cons (pe_dget (hu_of hr) (pv 1) (pv 3) (fun _ _ => rfl)) pa_nil))) pa_nil))))))
      (pss_one (ps_ret (pv 2))))), ?_⟩
    obtain ⟨a1, p1, xs1, c1, rfl, h1, hc1, n1, t1⟩ := fv
    refine ⟨_, rfl, a1, _, _, c1, rfl, rfl, h1, rfl, ?_⟩
    have lt1 := dps_len t1
    rw [List.length_map] at lt1
    have few := gt.few
    refine ⟨_, rfl, a1, _, _, .ref p1, rfl, rfl, h1, rfl, p1, rfl, ⟨_, n1.sq⟩, ?_⟩
    refine for_tup (K := K) (a := p1) (xs := xs1) (fun i σ H' => ∃ vt o3 o4, σ = [some (.ref a1), some (.ref d), some vt, o3, o4] ∧ Same H H' ∧ Dp K H' vt (numD (worthz zf (ts.take i) c)) ∧ Red (worthz zf (ts.take i) c) ∧ Sz (k + i * (k + m + 1)) (worthz zf (ts.take i) c))
      ⟨_, none, none, rfl, Same.refl _, hc1, gt.const.1, by rw [Nat.zero_mul, Nat.add_zero]; exact gt.const.2⟩ (fun i σ H' _ h => by obtain ⟨_, _, _, _, h, _⟩ := h; exact (n1.same h).sq) ?_ ?_
    · rintro i x σ H1 hx ⟨vt, o3, o4, rfl, s1, hvt, rw_, zw⟩
      obtain ⟨dt, hdt, hdx⟩ := dps_get t1 hx
      rw [List.getElem?_map] at hdt
      obtain ⟨u, hu, rfl⟩ : ∃ u, ts[i]? = some u ∧ termN u.1 u.2 = dt := by
        cases z : ts[i]? with
        | none => rw [z] at hdt; cases hdt
        | some u => rw [z] at hdt; exact ⟨u, rfl, Option.some.inj hdt⟩
      have hi := get_lt hu
      have hum := List.mem_of_getElem? hu
      obtain ⟨ru, _, zu⟩ := gt.terms u hum
      have hmk := hsub _ (gt.names u hum)
      have hdx2 : Dp K H1 x (.tuple [.str u.1, numD u.2]) := dp_same s1 _ _ hdx
      cases hdx2 with
      | @tup at_ zs_ _ hsz_ haz =>
        cases haz with
        | @cons n1_ _ _ _ hn haz =>
          cases haz with
          | @cons r1 _ _ _ hr1 haz =>
            cases haz
            cases hn
            refine ⟨_, _, rfl, hsz_, rfl, _, _, rfl, _, _, rfl, rfl, ?_⟩
            obtain ⟨o, hget, _, hin⟩ := (D0.keep s1).get u.1
            obtain ⟨v, rfl, hv⟩ := hin hmk
            obtain ⟨rz, zz⟩ := hz _ hmk
            have bits : k + i * (k + m + 1) + (k + m) + 1 ≤ 7000 := by
              have z : (i + 1) * (k + m + 1) ≤ ns.length * (k + m + 1) := Nat.mul_le_mul_right _ (by omega)
              rw [Nat.succ_mul] at z
              omega
            have rm := mul_red ru rz
            refine ⟨_, rfl, _, rfl, _, rfl, _, rfl, d, v, rfl, hget, r1, v, u.2, zf u.1, k, m, rfl, hr1, hv, ru, rz, zu, zz, by omega, fun p3 H3 s3 hp3 => ?_⟩
            refine ⟨vt, .ref p3, _, mulz u.2 (zf u.1), k + i * (k + m + 1), k + m, rfl, dp_same s3 _ _ hvt, dp_rat hp3, rw_, rm, zw, mul_sz zu zz, bits, fun p4 H4 s4 hp4 => ?_⟩
            have ew : worthz zf (ts.take (i + 1)) c = addz (worthz zf (ts.take i) c) (mulz u.2 (zf u.1)) := by
              rw [take_more hu, worth_snoc]
            refine ⟨_, _, _, rfl, s1.trans (s3.trans s4), ?_, ?_, ?_⟩
            · rw [ew]
              exact dp_rat hp4
            · rw [ew]
              exact add_red rw_ rm
            · rw [ew]
              refine (add_sz zw (mul_sz zu zz)).mono ?_
              rw [Nat.succ_mul]
              omega
    · rintro σ H1 ⟨vt, o3, o4, rfl, s1, hvt, _, _⟩
      rw [lt1, List.take_length] at hvt
      exact ⟨_, rfl, q vt H1 s1 hvt⟩
end

section
variable {P : Program} {w : World} {K : PySem.W.Frag} {mg : Str → Option Value} {base : Heap}
theorem ok_joint (Td : mg "dict" = none) (GP : Kn P w K mg base CX0 "_law_plus" 3 ["_law_one", "_law_other"] (spBinR K addz)) (GF : Kn P w K mg base CX0 "_law_form" 1 ["_law_terms", "_law_constant"] (spFormF K))
    (D : Df K mg "_law_joint" s_l_joint ["_law_one", "_law_other"]) : Kn P w K mg base CX0 "_law_joint" 4 ["_law_one", "_law_other"] (spJoint K) := by
  obtain ⟨f, fd, F, hm, hb⟩ := D
  obtain ⟨f_l_plus, fd_l_plus, G_l_plus, m_l_plus, k_l_plus, b_l_plus⟩ := GP
  obtain ⟨f_l_form, fd_l_form, G_l_form, m_l_form, k_l_form, b_l_form⟩ := GF
  refine ⟨f, fd, F.ok sc_l_joint (fun vs H Q E h => ?_) (fun cdv A outer s H vs Q E hr h => ?_), hm, F.kp, hb⟩
  · obtain ⟨v, u, ns, j, k, ts, us, c, e, rfl, _⟩ := h
    rfl
  · obtain ⟨v, u, ns, j, k, ts, us, c, e, rfl, fv, fu, gt, gu, hns, j1, k1, hjk, q⟩ := h
    refine ⟨_, (pss_cons (ps_set (i := 2) sc_l_joint.nd rfl (Or.inl rfl) (pe_callTy (call_dictT (K := K) rfl rfl) (by rfl) Td (by decide +kernel) (pa_cons (pe_ix ix_tup (pv 0) pe_int (fun _ _ => rfl)) pa_nil)))
      (pss_cons (ps_for PassesOwn.never rfl (pi_tup (pe_ix ix_tup (pv 1) pe_int (fun _ _ => rfl))) (pg_tup (by rfl) (pgs_cons (pg_name (i := 3) sc_l_joint.nd rfl (Or.inl rfl)) (pgs_cons (pg_name (i := 4) sc_l_joint.nd rfl (Or.inl rfl)) pgs_nil)))
        (pss_one (ps_asg (pe_call G_l_plus (hr.mono (by omega)) rfl m_l_plus k_l_plus b_l_plus .nil pass0 (pa_cons (pe_dget2 (hu_of hr) (pv 2) (pv 3) (pe_tup (pa_cons pe_int (pa_cons pe_int pa_nil))) ⟨rfl, by rfl, by rfl, by rfl⟩) (pa_cons (pv 4) pa_nil))) (pg_sub (pv 2) (pv 3) (set_dict (hu_of hr))))))
      (pss_one (ps_ret (pe_call G_l_form (hr.mono (by omega)) rfl m_l_form k_l_form b_l_form .nil pass0 (pa_cons (pv 2) (pa_cons (pe_call G_l_plus (hr.mono (by omega)) rfl m_l_plus k_l_plus b_l_plus .nil pass0 (pa_cons (pe_ix ix_tup (pv 0) pe_int (fun _ _ => rfl)) (pa_cons (pe_ix ix_tup (pv 1) pe_int (fun _ _ => rfl)) pa_nil))) pa_nil))))))), ?_⟩
    obtain ⟨a1, p1, xs1, c1, rfl, h1, hc1, n1, t1⟩ := fv
    obtain ⟨a2, p2, xs2, c2, rfl, h2, hc2, n2, t2⟩ := fu
    obtain ⟨ps, kvs, rfl, hpair, hk, hat⟩ := pairs_at t1
    refine ⟨_, rfl, a1, _, _, .ref p1, rfl, rfl, h1, rfl, p1, ps, kvs, rfl, n1, hpair, fun d hd => ?_⟩
    have D0 := DZ.make (K := K) gt.nodup hd hk hat
    have s0 := same_new hd (.dK (mergeK [] kvs))
    have lt2 := dps_len t2
    rw [List.length_map] at lt2
    have fewu := gu.few
    refine ⟨_, rfl, a2, _, _, .ref p2, rfl, rfl, same_seqT s0 h2, rfl, p2, rfl, ⟨_, (n2.same s0).sq⟩, ?_⟩
    refine for_tup (K := K) (a := p2) (xs := xs2) (fun i σ H' => ∃ ks zf o3 o4, σ = [some (.ref a1), some (.ref a2), some (.ref d), o3, o4] ∧ DZ K H' d ks zf ∧ Same H (hide d H') ∧ (∀ x ∈ ks, x ∈ ns) ∧
      (∀ x, Red (zf x) ∧ Sz (j + k + 1) (zf x)) ∧ (∀ x, qv (zf x) = cq ts x + cq (us.take i) x) ∧ ∀ x, x ∉ (us.take i).map (·.1) → zf x = cz ts x)
      ⟨_, _, none, none, rfl, D0, hide_same s0 hd, (fun x hx => by obtain ⟨t, ht, rfl⟩ := List.mem_map.mp hx; exact gt.names t ht), (fun x => ⟨(gt.cz_ok j1 x).1, (gt.cz_ok j1 x).2.mono (by omega)⟩), (fun x => by rw [qv_cz]; show _ = _ + (0 : Rat); grind), fun x _ => rfl⟩
      (fun i σ H' _ h => by obtain ⟨_, _, _, _, _, _, h, _⟩ := h; exact (n2.same (h.trans (hide_sub d H'))).sq) ?_ ?_
    · rintro i x σ H1 hx ⟨ks, zf, o3, o4, rfl, D1, s1, sub, rz, hq, hold⟩
      obtain ⟨dt, hdt, hdx⟩ := dps_get t2 hx
      rw [List.getElem?_map] at hdt
      obtain ⟨t, ht, rfl⟩ : ∃ t, us[i]? = some t ∧ termN t.1 t.2 = dt := by
        cases z : us[i]? with
        | none => rw [z] at hdt; cases hdt
        | some t => rw [z] at hdt; exact ⟨t, rfl, Option.some.inj hdt⟩
      have s1' := s1.trans (hide_sub d H1)
      have hdx1 : Dp K H1 x (.tuple [.str t.1, numD t.2]) := dp_same s1' _ _ hdx
      have htm := List.mem_of_getElem? ht
      have fresh : t.1 ∉ (us.take i).map (·.1) := fun m => by
        have nd := gu.nodup
        have e : us = us.take (i + 1) ++ us.drop (i + 1) := (List.take_append_drop _ _).symm
        rw [e, take_more ht, List.map_append, List.map_append] at nd
        exact (List.nodup_append.mp (List.nodup_append.mp nd).1).2.2 _ m _ (List.mem_singleton.mpr rfl) rfl
      cases hdx1 with
      | @tup at_ zs _ hsz haz =>
        cases haz with
        | @cons n1_ _ _ _ hn haz =>
          cases haz with
          | @cons r1 _ _ _ hr1 haz =>
            cases haz
            cases hn
            refine ⟨_, _, rfl, hsz, rfl, _, _, rfl, _, _, rfl, rfl, ?_⟩
            obtain ⟨kvs1, hd1, hk1, _⟩ := D1.at_
            refine ⟨_, rfl, d, rfl, .inl ⟨kvs1, .inl hd1⟩, _, rfl, (by show 2 ≤ sizeLine; decide), fun p0 np0 => ?_⟩
            have s9 := same_new np0 (.tup [.int 0, .int 1])
            have D9 := D1.keep s9
            obtain ⟨o, hget, hzero, _⟩ := D9.get t.1
            refine ⟨o, hget, _, rfl, ?_⟩
            have z0 : Dp K (upd H1 p0 (.tup [.int 0, .int 1])) (V.ref p0) (rat 0 1) := dp_rat upd_same
            have ez := hold _ fresh
            have cok := gt.cz_ok j1 t.1
            obtain ⟨rt, _, st⟩ := gu.terms t htm
            have hzf := hzero _ z0
            rw [ez] at hzf
            refine ⟨_, _, cz ts t.1, t.2, j, k, rfl, hzf, dp_same s9 _ _ hr1, cok.1, rt, cok.2, st, hjk, fun p H2 s2 hp2 => ?_⟩
            have D2 := D9.keep s2
            have hd2 := s2 _ _ (s9 _ _ hd1)
            have pd : p ≠ d := fun e => by rw [e, hd2] at hp2; cases hp2
            have lk : kvs1.length ≤ 6 := by
              rw [D1.len hd1]
              exact Nat.le_trans (sub_len D1.nd sub) hns
            refine ⟨_, rfl, _, rfl, d, _, rfl, .inl ⟨kvs1, Sum.inr t.1, hd2, rfl, small1000 (by omega), rfl⟩, ?_⟩
            have D3 := D2.put hd2 (x := t.1) (v := .ref p) (z := addz (cz ts t.1) t.2) (dp_rat (hide_at hp2 pd))
            refine ⟨_, _, _, _, rfl, D3, ?_, ?_, ?_, ?_, ?_⟩
            · rw [hide_upd]
              exact s1.trans (hide_mono (s9.trans s2))
            · intro y hy
              rcases mem_addN.mp hy with hy | rfl
              · exact sub y hy
              · exact gu.names t htm
            · intro y
              by_cases e : y = t.1
              · rw [if_pos e]
                exact ⟨add_red cok.1 rt, add_sz cok.2 st⟩
              · rw [if_neg e]
                exact rz y
            · intro y
              rw [take_more ht]
              by_cases e : y = t.1
              · subst e
                rw [if_pos rfl, qv_add cok.1 rt, qv_cz]
                have : cq (us.take i ++ [t]) t.1 = qv t.2 := by
                  refine cq_mem (ts := us.take i ++ [t]) ?_ (List.mem_append_right _ (List.mem_singleton.mpr rfl))
                  rw [← take_more ht]
                  exact (List.map_take (f := (·.1)) (l := us) (i := i + 1) ▸ (List.take_sublist _ _).nodup gu.nodup)
                rw [this]
              · rw [if_neg e, hq, cq_app_off (fun w => e w.symm)]
            · intro y hy
              rw [take_more ht, List.map_append, List.mem_append, not_or] at hy
              rw [if_neg (fun e => hy.2 (List.mem_singleton.mpr e))]
              exact hold y hy.1
    · rintro σ H1 ⟨ks, zf, o3, o4, rfl, D1, s1, sub, rz, hq, _⟩
      rw [lt2, List.take_length] at hq
      obtain ⟨kvs1, hd1, hk1, hval⟩ := D1.at_
      have lks : ks.length ≤ 6 := Nat.le_trans (sub_len D1.nd sub) hns
      have s1' := s1.trans (hide_sub d H1)
      have rc := gt.const
      have re := gu.const
      refine ⟨_, rfl, _, rfl, a1, _, _, c1, rfl, rfl, same_seqT s1' h1, rfl, _, rfl, a2, _, _, c2, rfl, rfl, same_seqT s1' h2, rfl, c1, c2, c, e, j, k, rfl, dp_same s1' _ _ hc1, dp_same s1' _ _ hc2, rc.1, re.1, rc.2, re.2, hjk, fun pc H5 s5 hpc => ?_⟩
      have D5 := D1.keep s5
      obtain ⟨kvs5, hd5, hk5, hval5⟩ := D5.at_
      refine ⟨d, .ref pc, kvs5, ks, zf, addz c e, rfl, hd5, hk5, lks, fun x hx => ?_, dp_rat hpc, fun r ys H6 s6 pm so hf => ?_⟩
      · obtain ⟨v, e1, hv⟩ := hval5 x hx
        exact ⟨v, e1, dp_same (hide_sub d H5) _ _ hv⟩
      · obtain ⟨gw, hw⟩ := form_of (ns := ns) (k := j + k + 1) (zf := zf) (c := addz c e) (p := fun k => decide ((zf k).1 ≠ 0)) (pm.nodup_iff.mpr D1.nd) so (fun y hy => sub y (pm.mem_iff.mp hy)) (fun y _ => rz y) (fun y _ => decide_eq_true_iff) ⟨add_red rc.1 re.1, add_sz rc.2 re.2⟩
        refine q r H6 _ (s1'.trans (s5.trans s6)) hf gw fun x => ?_
        rw [hw, ← hq]
        by_cases hx : x ∈ ys
        · rw [if_pos hx]
        · rw [if_neg hx, D1.off x (fun z => hx (pm.mem_iff.mpr z)), qv_zero]
theorem ok_scaled (T : Bt mg) (Td : mg "dict" = none) (GM : Kn P w K mg base CX0 "_law_times" 3 ["_law_one", "_law_other"] (spBinR K mulz)) (GF : Kn P w K mg base CX0 "_law_form" 1 ["_law_terms", "_law_constant"] (spFormF K))
    (D : Df K mg "_law_scaled" s_l_scaled ["_law_by", "_law_form_here"]) : Kn P w K mg base CX0 "_law_scaled" 4 ["_law_by", "_law_form_here"] (spScaled K) := by
  obtain ⟨f, fd, F, hm, hb⟩ := D
  obtain ⟨f_l_times, fd_l_times, G_l_times, m_l_times, k_l_times, b_l_times⟩ := GM
  obtain ⟨f_l_form, fd_l_form, G_l_form, m_l_form, k_l_form, b_l_form⟩ := GF
  refine ⟨f, fd, F.ok sc_l_scaled (fun vs H Q E h => ?_) (fun cdv A outer s H vs Q E hr h => ?_), hm, F.kp, hb⟩
  · obtain ⟨x, v, ns, j, k, s, ts, c, rfl, _⟩ := h
    rfl
  · obtain ⟨x, v, ns, j, k, sc, ts, c, rfl, hx, rs, zs, fv, gt, hns, k1, hjk, q⟩ := h
    refine ⟨_, (pss_cons (ps_set (i := 2) sc_l_scaled.nd rfl (Or.inl rfl) (pe_callTy (call_dictS (K := K) rfl rfl) (by rfl) Td (by decide +kernel) (pa_cons (pe_lc (own := [("_law_name", 3), ("_law_one", 4)]) rfl sc_l_scaled.nd (pi_tup (pe_ix ix_tup (pv 1) pe_int (fun _ _ => rfl))) (blkOk_by (N := ["_law_by", "_law_form_here", "_law_terms", "_law_name", "_law_one"]) (sc := defScope s_l_scaled) (by decide +kernel)) (fun _ _ _ _ _ => (pg_tupK (K := K) (n := 2) rfl (by rfl) (pgs_cons (pg_name (i := 3) sc_l_scaled.nd rfl (Or.inl rfl)) (pgs_cons (pg_name (i := 4) sc_l_scaled.nd rfl (Or.inl rfl)) pgs_nil)) (by rfl) (by rfl))) (fun _ _ _ _ _ => pts_nil) (fun _ _ _ _ _ => (pe_tup (pa_cons (pv 3) (pa_cons (pe_call G_l_times (hr.mono (by omega)) rfl m_l_times k_l_times b_l_times .nil pass0 (pa_cons (pv 0) (pa_cons (pv 4) pa_nil))) pa_nil))))) pa_nil)))
      (pss_one (ps_ret (pe_call G_l_form (hr.mono (by omega)) rfl m_l_form k_l_form b_l_form .nil pass0 (pa_cons (pv 2) (pa_cons (pe_call G_l_times (hr.mono (by omega)) rfl m_l_times k_l_times b_l_times .nil pass0 (pa_cons (pv 0) (pa_cons (pe_ix ix_tup (pv 1) pe_int (fun _ _ => rfl)) pa_nil))) pa_nil)))))), ?_⟩
    obtain ⟨a1, p1, xs1, c1, rfl, h1, hc1, n1, t1⟩ := fv
    have lt1 := dps_len t1
    rw [List.length_map] at lt1
    have few := gt.few
    refine ⟨_, rfl, a1, _, _, .ref p1, rfl, rfl, h1, rfl, p1, rfl, ⟨_, n1.sq⟩, fun D hD => ?_⟩
    refine lc_tup (K := K) (a := p1) (xs := xs1) (fun i H' => Same H H' ∧ ∃ ls : List V, ls.length = i ∧ H' D = some (.lst ls) ∧ DpAll K (hide D H') ls ((ts.take i).map fun u => termN u.1 (mulz sc u.2))) ⟨same_new hD _, [], rfl, upd_same, .nil⟩ (fun i H' _ h => (n1.same h.1).sq) ?_ ?_
    · rintro i y H2 hx2 ⟨s2, ls, hl, hls, hall⟩
      obtain ⟨dt, hdt, hdx⟩ := dps_get t1 hx2
      rw [List.getElem?_map] at hdt
      obtain ⟨u, hu, rfl⟩ : ∃ u, ts[i]? = some u ∧ termN u.1 u.2 = dt := by
        cases z : ts[i]? with
        | none => rw [z] at hdt; cases hdt
        | some u => rw [z] at hdt; exact ⟨u, rfl, Option.some.inj hdt⟩
      have hum := List.mem_of_getElem? hu
      have hi := get_lt hu
      obtain ⟨ru, _, zu⟩ := gt.terms u hum
      have hdx2 : Dp K H2 y (.tuple [.str u.1, numD u.2]) := dp_same s2 _ _ hdx
      cases hdx2 with
      | @tup at_ zs_ _ hsz haz =>
        cases haz with
        | @cons n1_ _ _ _ hn haz =>
          cases haz with
          | @cons r1 _ _ _ hr2 haz =>
            cases haz
            cases hn
            refine ⟨_, _, rfl, hsz, rfl, _, _, rfl, _, _, rfl, rfl, rfl, _, rfl, _, rfl, _, rfl, x, r1, sc, u.2, j, k, rfl, dp_same s2 _ _ hx, hr2, rs, ru, zs, zu, hjk, fun p H3 s3 hp3 => ⟨(by show 2 ≤ sizeLine; decide), fun p4 np4 => ?_⟩⟩
            have s4 := same_new np4 (.tup [.str u.1, .ref p])
            refine ⟨ls, s4 _ _ (s3 _ _ hls), small1000 (by omega), same_upd (s2.trans (s3.trans s4)) hD, ls ++ [.ref p4], by rw [List.length_append, hl]; rfl, upd_same, ?_⟩
            rw [take_more hu, List.map_append, hide_upd]
            refine dps_snoc (dps_same (hide_mono (s3.trans s4)) _ _ hall) (.tup (SqT.of (hide_at upd_same fun e => ?_)) (.cons (.str _) (.cons (dp_rat (hide_at (s4 _ _ hp3) fun e => ?_)) .nil)))
            · rw [e, s3 _ _ hls] at np4
              cases np4
            · rw [e, s3 _ _ hls] at hp3
              cases hp3
    · rintro H2 ⟨s2, ls, hl, hls, hall⟩
      rw [lt1, List.take_length] at hall
      have hall2 : DpAll K H2 ls ((ts.map fun t => (t.1, mulz sc t.2)).map fun t => termN t.1 t.2) := by
        rw [List.map_map]
        exact dps_same (hide_sub D H2) _ _ hall
      obtain ⟨ps, kvs, rfl, hpair, hk, hat⟩ := pairs_at hall2
      refine ⟨D, ps, kvs, rfl, .inl (SqL.of hls), hpair, fun d hd => ?_⟩
      have nd : ((ts.map fun t => (t.1, mulz sc t.2)).map (·.1)).Nodup := by
        rw [List.map_map]
        exact gt.nodup
      have D0 := DZ.make (K := K) nd hd hk hat
      have s3 := same_new hd (.dK (mergeK [] kvs))
      have s23 := s2.trans s3
      have rc := gt.const
      refine ⟨_, rfl, _, rfl, _, rfl, a1, _, _, c1, rfl, rfl, same_seqT s23 h1, rfl, x, c1, sc, c, j, k, rfl, dp_same s23 _ _ hx, dp_same s23 _ _ hc1, rs, rc.1, zs, rc.2, hjk, fun pc H5 s5 hpc => ?_⟩
      have D5 := D0.keep s5
      obtain ⟨kvs5, hd5, hk5, hval5⟩ := D5.at_
      have en : (ts.map fun t => (t.1, mulz sc t.2)).map (·.1) = ts.map (·.1) := by rw [List.map_map]; rfl
      refine ⟨d, .ref pc, kvs5, _, cz (ts.map fun t => (t.1, mulz sc t.2)), mulz sc c, rfl, hd5, hk5, by rw [en, List.length_map]; omega, fun y hy => ?_, dp_rat hpc, fun r ys H6 s6 pm so hf => ?_⟩
      · obtain ⟨v, e1, hv⟩ := hval5 y hy
        exact ⟨v, e1, dp_same (hide_sub d H5) _ _ hv⟩
      · have hcz : ∀ y ∈ ys, Red (cz (ts.map fun t => (t.1, mulz sc t.2)) y) ∧ Sz (j + k) (cz (ts.map fun t => (t.1, mulz sc t.2)) y) := fun y hy => by
          obtain ⟨t, ht, rfl⟩ := List.mem_map.mp (pm.mem_iff.mp hy)
          obtain ⟨u, hu, rfl⟩ := List.mem_map.mp ht
          rw [cz_mem nd ht]
          exact ⟨mul_red rs (gt.terms u hu).1, mul_sz zs (gt.terms u hu).2.2⟩
        obtain ⟨gw, hw⟩ := form_of (ns := ns) (k := j + k) (zf := cz (ts.map fun t => (t.1, mulz sc t.2))) (c := mulz sc c) (p := fun k => decide ((cz (ts.map fun t => (t.1, mulz sc t.2)) k).1 ≠ 0)) (pm.nodup_iff.mpr nd) so (fun y hy => by
            obtain ⟨t, ht, rfl⟩ := List.mem_map.mp (pm.mem_iff.mp hy)
            obtain ⟨u, hu, rfl⟩ := List.mem_map.mp ht
            exact gt.names u hu) hcz (fun y _ => decide_eq_true_iff) ⟨mul_red rs rc.1, mul_sz zs rc.2⟩
        refine q r H6 _ (s23.trans (s5.trans s6)) hf gw fun y => ?_
        rw [hw, ← cq_scale sc rs (fun u hu => (gt.terms u hu).1)]
        by_cases hy : y ∈ ys
        · rw [if_pos hy, qv_cz]
        · rw [if_neg hy, cq_off (fun z => hy (pm.mem_iff.mpr z))]
end

def spWorthTold (K : PySem.W.Frag) : Sp := fun vs H Q _ => ∃ (v : V) (t : Addr) (ns : List Str) (k m : Nat) (ts : Ts) (c : Int × Int) (ks : List Str) (zf : Str → Int × Int), vs = [v, .ref t] ∧ FormAt K H v ts c ∧ FormK ns k ts c ∧ ValsAt K H t ks zf ∧ (∀ x ∈ ks, Red (zf x) ∧ Sz m (zf x)) ∧
  k + ns.length * (k + m + 1) ≤ 7000 ∧ ns.length ≤ 60 ∧ ((∀ u ∈ ts, u.1 ∈ ks) → ∀ pt r H', Same H H' → H' pt = some (.tup [.str "told", r]) → Dp K H' r (numD (worthz zf ts c)) → Q (.ref pt) H') ∧
  ∀ (i : Nat) (u : Str × (Int × Int)), ts[i]? = some u → (∀ z ∈ ts.take i, z.1 ∈ ks) → u.1 ∉ ks → ∀ pt H', Same H H' → H' pt = some (.tup [.str "refused", .str u.1, .bl true]) → Q (.ref pt) H'
section
variable {P : Program} {w : World} {K : PySem.W.Frag} {mg : Str → Option Value} {base : Heap}
theorem ok_worth_told {C S : Addr} (T : Bt mg) (Ti : ErrF P w K mg base "UnknownCell" "name" C) (gS : mg "SheetError" = some (.ref S)) (kS : PySem.W.kitOne K (.ref C) (.ref S) = some true)
    (GV : Kn P w K mg base (L2.CX P w) "value_at" 4 ["form", "values"] (spValueAt K C)) (D : Df K mg "_law_worth_told" s_l_worth_told ["_law_form_here", "_law_values"]) : Kn P w K mg base CX0 "_law_worth_told" 5 ["_law_form_here", "_law_values"] (spWorthTold K) := by
  obtain ⟨f, fd, F, hm, hb⟩ := D
  obtain ⟨f_value_at, fd_value_at, G_value_at, m_value_at, k_value_at, b_value_at⟩ := GV
  refine ⟨f, fd, F.ok sc_l_worth_told (fun vs H Q E h => ?_) (fun cdv A outer s H vs Q E hr h => ?_), hm, F.kp, hb⟩
  · obtain ⟨v, t, ns, k, m, ts, c, ks, zf, rfl, _⟩ := h
    rfl
  · obtain ⟨v, t, ns, k, m, ts, c, ks, zf, rfl, fv, gt, va, hz, hsz, hns, q1, q2⟩ := h
    refine ⟨_, (pss_cons (ps_set (i := 2) sc_l_worth_told.nd rfl (Or.inl rfl) pe_non)
      (pss_cons (ps_try_as (i := 3) rfl rfl sc_l_worth_told.nd rfl rfl ⟨rfl, by decide, Or.inl Ti.gC⟩ takes0 (fun W pn xe tk _ => (pss_one (ps_set (i := 2) sc_l_worth_told.nd rfl (Or.inl rfl) (pe_tup (pa_cons pe_str (pa_cons (pe_callS G_value_at (hr.mono (by omega)) rfl m_value_at k_value_at b_value_at (fun σ => passAt tk σ) (pa_cons (pv 0) (pa_cons (pv 1) pa_nil))) pa_nil)))))) (fun ea oe cls ed pn hz hf => (pss_one (ps_set (i := 2) sc_l_worth_told.nd rfl (Or.inl rfl) (pe_tup (pa_cons pe_str (pa_cons (pe_xf Ti.xf Ti.no hz hf (pv 3)) (pa_cons (pe_callB (call_isErr Ti.ec hz hf) (by rfl) T.n_isinstance (by decide +kernel) (pa_cons (pv 3) (pa_cons (pe_glob (v := .ref S) rfl gS rfl) pa_nil))) pa_nil))))))))
      (pss_one (ps_ret (pv 2))))), ?_⟩
    refine ⟨_, rfl, _, rfl, v, t, ns, k, m, ts, c, ks, zf, rfl, fv, gt, va, hz, hsz, hns, fun hall r H1 s1 hr1 => ?_, fun i u hu hin hno dx H1 s1 hx => ?_⟩
    · refine ⟨(by show 2 ≤ sizeLine; decide), fun pt np => ⟨_, rfl, ?_⟩⟩
      exact q1 hall pt r _ (s1.trans (same_new np _)) upd_same (dp_same (same_new np _) _ _ hr1)
    · refine ⟨true, Ti.ex, fun _ ea hea => ?_, fun z => nomatch z⟩
      refine ⟨_, rfl, rfl, rfl, dx, _, .str u.1, rfl, hx, rfl, ?_⟩
      refine ⟨_, rfl, .ref S, .ref S, true, rfl, rfl, .own S, kS, .inr ⟨dx, _, rfl, hx⟩, (by show 3 ≤ sizeLine; decide), fun p np => ⟨_, rfl, ?_⟩⟩
      exact q2 i u hu hin hno p _ (s1.trans (same_new np _)) upd_same
end
/-! ### the text of what is passed -/
theorem numOf_is {d : PyData} {z : Int × Int} (h : numOf d = some z) : d = .int z.1 ∨ d = numD z := by
  cases d with
  | int i =>
    cases Option.some.inj h
    exact .inl rfl
  | tuple ds => exact .inr (ratOf_is h)
  | none => cases h
  | bool _ => cases h
  | str _ => cases h
  | list _ => cases h
  | dict _ => cases h
/-- a pair of a name and a number, as passed -/
def PairD (d : PyData) : Prop := ∃ x e z, d = .tuple [.str x, e] ∧ nameL x.cps.toList = true ∧ numOf e = some z ∧ Sz 800 z
theorem log800 {i : Int} (h : i.natAbs < 2 ^ 800) : i.natAbs.log2 < 801 := PySem.Flt.log2_lt_of (by decide) (Nat.lt_trans h (Nat.pow_lt_pow_right (by decide) (by decide)))
theorem int_shown {i : Int} (h : i.natAbs < 2 ^ 800) : (PyData.shown (.int i)).length ≤ 1000 := by
  have z := int_text_length_le (a := i) (k := 801) (by decide) (log800 h)
  show (Str.ofString (toString i)).length ≤ 1000
  rw [ofString_length]
  omega
structure ShowD (d : PyData) : Prop where
  sh : PyData.showable d = true
  nd : PyData.hasDict d = false
  lv : PyData.leavesShort 1000 d = true
  bk : d.bulk ≤ 12
  dp : d.depth ≤ 2
theorem PairD.ok {d : PyData} (h : PairD d) : ShowD d := by
  obtain ⟨x, e, z, rfl, hx, he, hz⟩ := h
  have l1 := log800 hz.1
  have l2 := log800 hz.2
  have i1 := int_shown hz.1
  have i2 := int_shown hz.2
  have dec : ∀ {i : Int}, i.natAbs.log2 < 801 → decide (i.natAbs.log2 < 1920) = true := fun h => decide_eq_true (by omega)
  have lx : x.cps.toList.all (fun c => decide (c < 16 ^ 8)) = true := by
    unfold nameL at hx
    rw [Bool.and_eq_true, Bool.and_eq_true, Bool.and_eq_true] at hx
    rw [List.all_eq_true]
    intro c hc
    rw [decide_eq_true_eq]
    exact Nat.lt_trans (az_ascii (List.all_eq_true.mp hx.1.1.2 c hc)) (by decide)
  have bx : x.cps.size ≤ 8 := by
    unfold nameL at hx
    rw [Bool.and_eq_true, Bool.and_eq_true, Bool.and_eq_true, Bool.and_eq_true, decide_eq_true_eq, decide_eq_true_eq] at hx
    have y : x.cps.toList.length < 9 := hx.1.1.1.2
    rw [Array.length_toList] at y
    omega
  rcases numOf_is he with rfl | rfl
  · refine ⟨?_, rfl, ?_, ?_, by show max 0 (max 0 0) + 1 ≤ 2; decide⟩
    · show (true && (decide (z.1.natAbs.log2 < 1920) && true)) = true
      rw [dec l1]
      rfl
    · show (x.cps.toList.all (fun c => decide (c < 16 ^ 8)) && (decide ((PyData.shown (.int z.1)).length ≤ 1000) && true)) = true
      rw [lx, decide_eq_true i1]
      rfl
    · show x.cps.size + 1 + (0 + 1 + 0) ≤ 12
      omega
  · refine ⟨?_, rfl, ?_, ?_, by show max 0 (max (max 0 (max 0 0) + 1) 0) + 1 ≤ 2; decide⟩
    · show (true && ((decide (z.1.natAbs.log2 < 1920) && (decide (z.2.natAbs.log2 < 1920) && true)) && true)) = true
      rw [dec l1, dec l2]
      rfl
    · show (x.cps.toList.all (fun c => decide (c < 16 ^ 8)) && ((decide ((PyData.shown (.int z.1)).length ≤ 1000) && (decide ((PyData.shown (.int z.2)).length ≤ 1000) && true)) && true)) = true
      rw [lx, decide_eq_true i1, decide_eq_true i2]
      rfl
    · show x.cps.size + 1 + ((0 + 1 + (0 + 1 + 0)) + 1 + 0) ≤ 12
      omega
theorem shows_all : ∀ {ds : List PyData}, (∀ d ∈ ds, ShowD d) → PyData.showableAll ds = true ∧ PyData.hasDictAll ds = false ∧ PyData.leavesShortAll 1000 ds = true ∧ PyData.bulkAll ds ≤ 13 * ds.length ∧ PyData.depthAll ds ≤ 2
  | [], _ => ⟨rfl, rfl, rfl, Nat.le_refl _, Nat.zero_le _⟩
  | d :: ds, h => by
    obtain ⟨a, b, c, e, f⟩ := shows_all (ds := ds) fun x hx => h x (List.mem_cons_of_mem _ hx)
    have g := h d (List.mem_cons_self ..)
    refine ⟨?_, ?_, ?_, ?_, ?_⟩
    · show (PyData.showable d && PyData.showableAll ds) = true
      rw [g.sh, a]
      rfl
    · show (PyData.hasDict d || PyData.hasDictAll ds) = false
      rw [g.nd, b]
      rfl
    · show (PyData.leavesShort 1000 d && PyData.leavesShortAll 1000 ds) = true
      rw [g.lv, c]
      rfl
    · show d.bulk + 1 + PyData.bulkAll ds ≤ 13 * (ds.length + 1)
      have := g.bk
      omega
    · show max d.depth (PyData.depthAll ds) ≤ 2
      have := g.dp
      omega
theorem passed_ok {ds : List PyData} (h : ∀ d ∈ ds, PairD d) (hl : ds.length ≤ 6) {D : PyData} (e : D = .list ds ∨ D = .tuple ds) : PyData.showable D = true ∧ PyData.hasDict D = false ∧ D.depth ≤ 40 ∧ (PyData.shown D).length ≤ sizeLine := by
  obtain ⟨a, b, c, f, g⟩ := shows_all fun d hd => (h d hd).ok
  have key : PyData.leavesShort 1000 D = true ∧ D.bulk ≤ 13 * ds.length ∧ D.depth ≤ 3 ∧ PyData.showable D = true ∧ PyData.hasDict D = false := by
    rcases e with rfl | rfl
    · exact ⟨c, f, Nat.succ_le_succ g, a, b⟩
    · exact ⟨c, f, Nat.succ_le_succ g, a, b⟩
  obtain ⟨k1, k2, k3, k4, k5⟩ := key
  refine ⟨k4, k5, by omega, Nat.le_trans (PyData.shown_le_bulk 1000 (by decide) D k1) ?_⟩
  have : 1002 * D.bulk + 1000 ≤ 1002 * 78 + 1000 := by omega
  exact Nat.le_trans this (by decide)

theorem op_notIn_seqK {X : Cx} {K : PySem.W.Frag} (h : X.K = K) : OpR X (compareOp .NotIn) (rIn K true) := by
  subst h
  exact op_notIn_seq
def PrAt (K : PySem.W.Frag) (H : Hp) (zf : Str → Int × Int) (p : Addr × Str) : Prop := ∃ u, SqT K H p.1 [.str p.2, u] ∧ Nv K H u (zf p.2)
theorem PrAt.same {K : PySem.W.Frag} {H H' : Hp} {zf : Str → Int × Int} {p : Addr × Str} (h : PrAt K H zf p) (s : Same H H') : PrAt K H' zf p := by
  obtain ⟨u, h1, h2⟩ := h
  exact ⟨u, same_seqT s h1, h2.same s⟩
theorem pr_data {K : PySem.W.Frag} {H : Hp} {zf : Str → Int × Int} : ∀ {qs : List (Addr × Str)}, (∀ p ∈ qs, PrAt K H zf p) → (∀ p ∈ qs, nameL p.2.cps.toList = true) → (∀ p ∈ qs, Sz 800 (zf p.2)) →
    ∃ ds, DpAll K H (qs.map fun p => V.ref p.1) ds ∧ ds.length = qs.length ∧ ∀ d ∈ ds, PairD d
  | [], _, _, _ => ⟨[], .nil, rfl, fun d h => by cases h⟩
  | p :: qs, h1, h2, h3 => by
    obtain ⟨ds, e1, e2, e3⟩ := pr_data (qs := qs) (fun x hx => h1 x (List.mem_cons_of_mem _ hx)) (fun x hx => h2 x (List.mem_cons_of_mem _ hx)) fun x hx => h3 x (List.mem_cons_of_mem _ hx)
    obtain ⟨u, hs, d, hd, hz⟩ := h1 p (List.mem_cons_self ..)
    refine ⟨.tuple [.str p.2, d] :: ds, .cons (.tup hs (.cons (.str _) (.cons hd .nil))) e1, by rw [List.length_cons, List.length_cons, e2], fun x hx => ?_⟩
    rcases List.mem_cons.mp hx with rfl | hx
    · exact ⟨p.2, d, zf p.2, rfl, h2 p (List.mem_cons_self ..), hz, h3 p (List.mem_cons_self ..)⟩
    · exact e3 x hx
theorem pr_vals {K : PySem.W.Frag} {H : Hp} {zf : Str → Int × Int} : ∀ {qs : List (Addr × Str)}, (∀ p ∈ qs, PrAt K H zf p) → (qs.map (·.2)).Nodup →
    ∃ kvs : List (Key × V), Paired (fun p kv => SqT K H p [kV kv.1, kv.2]) (qs.map (·.1)) kvs ∧ kvs.map (·.1) = (qs.map (·.2)).map Sum.inr ∧ ∀ x ∈ qs.map (·.2), ∃ v, valV kvs (Sum.inr x) = some v ∧ Nv K H v (zf x)
  | [], _, _ => ⟨[], .nil, rfl, fun x h => by cases h⟩
  | p :: qs, h, nd => by
    rw [List.map_cons] at nd
    obtain ⟨n1, n2⟩ := List.nodup_cons.mp nd
    obtain ⟨kvs, e1, e2, e3⟩ := pr_vals (qs := qs) (fun x hx => h x (List.mem_cons_of_mem _ hx)) n2
    obtain ⟨u, hs, hu⟩ := h p (List.mem_cons_self ..)
    refine ⟨(Sum.inr p.2, u) :: kvs, .cons hs e1, by rw [List.map_cons, e2]; rfl, fun x hx => ?_⟩
    by_cases e : x = p.2
    · subst e
      exact ⟨u, valV_pos rfl, hu⟩
    · rw [List.map_cons] at hx
      obtain ⟨v, e4, hv⟩ := e3 x ((List.mem_cons.mp hx).resolve_left e)
      exact ⟨v, by rw [valV_neg (fun z => e (by injection z with z; exact z.symm))]; exact e4, hv⟩
def toldW (z : Int × Int) : PyData := .tuple [.str "told", numD z]
def refW (x : Str) : PyData := .tuple [.str "refused", .str x, .bool true]
theorem lay_toldW (z : Int × Int) : (toldW z).canLay0 = true := by
  show (PyData.strOk (Str.ofString "told") && (((true && (true && true))) && true)) = true
  decide +kernel
theorem lay_refW {x : Str} (h : PyData.strOk x = true) : (refW x).canLay0 = true := by
  show (PyData.strOk (Str.ofString "refused") && (PyData.strOk x && (true && true))) = true
  rw [h]
  decide +kernel
theorem shp_toldW (z : Int × Int) : SeqAt.shaped (toldW z) = true := by
  unfold SeqAt.shaped
  rw [lay_toldW]
  rfl
theorem shp_refW {x : Str} (h : PyData.strOk x = true) : SeqAt.shaped (refW x) = true := by
  unfold SeqAt.shaped
  rw [lay_refW h]
  rfl
theorem first_gone {sm : List Str} {u : Str × (Int × Int)} : ∀ {ts : Ts} {i : Nat}, ts[i]? = some u → (∀ z ∈ ts.take i, z.1 ∈ sm) → u.1 ∉ sm → ∃ rest, ((ts.map (·.1)).filter fun x => decide (x ∉ sm)) = u.1 :: rest
  | [], _, h, _, _ => by simp at h
  | t :: ts, 0, h, _, n => by
    cases Option.some.inj h
    rw [List.map_cons, List.filter_cons_of_pos (by exact decide_eq_true n)]
    exact ⟨_, rfl⟩
  | t :: ts, i + 1, h, a, n => by
    have ht : t.1 ∈ sm := a t (List.mem_cons_self ..)
    rw [List.map_cons, List.filter_cons_of_neg (by simp [ht])]
    exact first_gone (ts := ts) (i := i) h (fun z hz => a z (List.mem_cons_of_mem _ hz)) n
theorem iteP {c : Bool} {A B : Prop} (hc : c = true) (h : A) : if c = true then A else B := by
  rw [if_pos hc]
  exact h
def spLack (K : PySem.W.Frag) : Sp := fun vs H Q _ => ∃ (b g c d : Addr) (v : V) (n k m : Nat) (ns ks : List Str) (ts : Ts) (cc : Int × Int) (zf : Str → Int × Int), vs = [.ref b, v, .ref d] ∧ Box H b g c n ∧ n + 100 < 1000000 ∧ FormAt K (mk b g H) v ts cc ∧ FormK ns k ts cc ∧ (∀ x ∈ ns, x ∈ ks) ∧ DZ K (mk b g H) d ks zf ∧
  (∀ x ∈ ks, nameL x.cps.toList = true) ∧ ks.length ≤ 6 ∧ ns.length ≤ 6 ∧ (∀ x ∈ ks, Red (zf x) ∧ Sz m (zf x)) ∧ m ≤ 800 ∧ k + ns.length * (k + m + 1) ≤ 7000 ∧ ∀ H', Box H' b g c (n + 60) → But b g H H' → Q (.bl true) H'
section
variable {P : Program} {w : World} {K : PySem.W.Frag} {mg : Str → Option Value} {base : Heap}
theorem ok_lacking (T : Bt mg) (Tt : Ut4 K mg) (GT : Kn P w K mg base CX0 "_law_take" 2 ["_law_box_here", "_law_size"] spTake) (GG : Kn P w K mg base CX0 "_law_given" 3 ["_law_box_here", "_law_number_here"] (spGivenD K)) (GS : Kn P w K mg base CX0 "_law_shuffled" 3 ["_law_box_here", "_law_things"] spShufV)
    (GW : Kn P w K mg base CX0 "_law_worth" 4 ["_law_form_here", "_law_values"] (spWorth K)) (GO : Kn P w K mg base CX0 "_law_worth_told" 5 ["_law_form_here", "_law_values"] (spWorthTold K))
    (D : Df K mg "_law_lacking" s_l_lacking ["_law_box_here", "_law_form_here", "_law_values"]) : KnG P w K mg base CX0 "_law_lacking" 6 ["_law_box_here", "_law_form_here", "_law_values"] (spLack K) := by
  obtain ⟨f, fd, F, hm, hb⟩ := D
  obtain ⟨f_l_take, fd_l_take, G_l_take, m_l_take, k_l_take, b_l_take⟩ := GT
  obtain ⟨f_l_given, fd_l_given, G_l_given, m_l_given, k_l_given, b_l_given⟩ := GG
  obtain ⟨f_l_shuffled, fd_l_shuffled, G_l_shuffled, m_l_shuffled, k_l_shuffled, b_l_shuffled⟩ := GS
  obtain ⟨f_l_worth, fd_l_worth, G_l_worth, m_l_worth, k_l_worth, b_l_worth⟩ := GW
  obtain ⟨f_l_worth_told, fd_l_worth_told, G_l_worth_told, m_l_worth_told, k_l_worth_told, b_l_worth_told⟩ := GO
  refine ⟨f, fd, okG F sc_l_lacking (fun vs H Q E h => ?_) (fun cdv A outer s H vs Q E hr hg h => ?_), hm, F.kp, hb⟩
  · obtain ⟨b, g, c, d, v, n, k, m, ns, ks, ts, cc, zf, rfl, _⟩ := h
    rfl
  · obtain ⟨b, g, c, d, v, n, k, m, ns, ks, ts, cc, zf, rfl, B, hn, fv, gt, hsub, DM, hnm, lks, lns, hz, hm8, hsz, q⟩ := h
    refine ⟨_, (pss_cons (ps_set (i := 3) sc_l_lacking.nd rfl (Or.inr rfl) (pe_lc (own := [("_law_name", 9)]) rfl sc_l_lacking.nd (pi_list (pe_callB (call_sortedD (by rfl)) (by rfl) Tt.n_sorted (by decide +kernel) (pa_cons (pv 2) pa_nil))) (blkOk_by (N := ["_law_box_here", "_law_form_here", "_law_values", "_law_some", "_law_passed", "_law_gone", "_law_due", "_law_handed", "_law_kept", "_law_name", "_law_by"]) (sc := defScope s_l_lacking) (by decide +kernel)) (fun _ _ _ _ _ => (pg_name (i := 9) sc_l_lacking.nd rfl (Or.inl rfl))) (fun _ _ _ _ _ => (pts_one (pt_cmpR op_gt (pe_call G_l_take (hr.mono (by omega)) rfl m_l_take k_l_take b_l_take .nil pass0 (pa_cons (pv 0) (pa_cons pe_int pa_nil))) pe_int (nomark _)))) (fun _ _ _ _ _ => (pv 9))))
      (pss_cons (ps_set (i := 4) sc_l_lacking.nd rfl (Or.inl rfl) (pe_call G_l_shuffled (hr.mono (by omega)) rfl m_l_shuffled k_l_shuffled b_l_shuffled .nil pass0 (pa_cons (pv 0) (pa_cons (pe_lc (own := [("_law_name", 9)]) rfl sc_l_lacking.nd (pi_list (pv 3)) (blkOk_by (N := ["_law_box_here", "_law_form_here", "_law_values", "_law_some", "_law_passed", "_law_gone", "_law_due", "_law_handed", "_law_kept", "_law_name", "_law_by"]) (sc := defScope s_l_lacking) (by decide +kernel)) (fun _ _ _ _ _ => (pg_name (i := 9) sc_l_lacking.nd rfl (Or.inl rfl))) (fun _ _ _ _ _ => pts_nil) (fun _ _ _ _ _ => (pe_tup (pa_cons (pv 9) (pa_cons (pe_call G_l_given (hr.mono (by omega)) rfl m_l_given k_l_given b_l_given .nil pass0 (pa_cons (pv 0) (pa_cons (pe_dget (hu_of hr) (pv 2) (pv 9) (fun _ _ => rfl)) pa_nil))) pa_nil))))) pa_nil))))
      (pss_cons (ps_setLc (i := 5) (own := [("_law_name", 9), ("_law_by", 10)]) rfl sc_l_lacking.nd rfl rfl (sw_true rfl rfl rfl (by decide +kernel)) (pi_tup (pe_ix ix_tup (pv 1) pe_int (fun _ _ => rfl))) (blkOk_by (N := ["_law_box_here", "_law_form_here", "_law_values", "_law_some", "_law_passed", "_law_gone", "_law_due", "_law_handed", "_law_kept", "_law_name", "_law_by"]) (sc := defScope s_l_lacking) (by decide +kernel)) (fun _ _ _ _ _ => (pg_tupK (K := K) (n := 2) rfl (by rfl) (pgs_cons (pg_name (i := 9) sc_l_lacking.nd rfl (Or.inl rfl)) (pgs_cons (pg_name (i := 10) sc_l_lacking.nd rfl (Or.inl rfl)) pgs_nil)) (by rfl) (by rfl))) (fun _ _ _ _ _ => (pts_one (pt_cmpR (op_notIn_seqK (K := K) rfl) (pv 9) (pv 3) (by rfl)))) (fun _ _ _ _ _ => (pv 9)))
      (C8.pss_cut (ps_set (i := 6) sc_l_lacking.nd rfl (Or.inl rfl) (pe_ifExp (pt_cmpR op_gt (pe_callB call_len_seq (by rfl) T.n_len (by decide +kernel) (pa_cons (pv 5) pa_nil)) pe_int (nomark _)) (pe_tup (pa_cons pe_str (pa_cons (pe_ix ix_list (pv 5) pe_int (fun _ _ => rfl)) (pa_cons pe_bl pa_nil)))) (pe_tup (pa_cons pe_str (pa_cons (pe_call G_l_worth (hr.mono (by omega)) rfl m_l_worth k_l_worth b_l_worth .nil pass0 (pa_cons (pv 1) (pa_cons (pv 2) pa_nil))) pa_nil)))))
      (pss_cons (ps_set (i := 7) sc_l_lacking.nd rfl (Or.inl rfl) (pe_ix ix_list (pe_lst (pa_cons (pv 4) (pa_cons (pe_callTy (call_tupF (K := K) rfl) (by rfl) T.n_tuple (by decide +kernel) (pa_cons (pv 4) pa_nil)) pa_nil))) (pe_call G_l_take (hr.mono (by omega)) rfl m_l_take k_l_take b_l_take .nil pass0 (pa_cons (pv 0) (pa_cons pe_int pa_nil))) (fun _ _ => rfl)))
      (pss_cons (ps_set (i := 8) sc_l_lacking.nd rfl (Or.inl rfl) (pe_callTy (call_strD (K := K) rfl hg hr.units) (by rfl) Tt.n_str (by decide +kernel) (pa_cons (pv 7) pa_nil)))
      (pss_one (ps_ret (pe_and (pe_cmpR (op_eqD hr.units) (pe_call G_l_worth_told (hr.mono (by omega)) rfl m_l_worth_told k_l_worth_told b_l_worth_told .nil pass0 (pa_cons (pv 1) (pa_cons (pv 7) pa_nil))) (pv 6) (nomark _)) (pe_one (pe_cmpR op_eq (pe_callTy (call_strD (K := K) rfl hg hr.units) (by rfl) Tt.n_str (by decide +kernel) (pa_cons (pv 7) pa_nil)) (pv 8) (nomark _)))))))))))), ?_⟩
    obtain ⟨kvs, hdM, hk, _⟩ := DM.at_
    have hd := mk_sub b g H _ _ hdM
    have few := gt.few
    refine ⟨_, rfl, d, kvs, ks, rfl, .inl hd, hk, by omega, fun ys p pm so np => ?_⟩
    have s1 := same_new np (.lst (ys.map V.str))
    obtain ⟨pb, pg, pc⟩ := B.ne np
    have ly : ys.length ≤ 6 := by rw [pm.length_eq]; exact lks
    refine ⟨p, rfl, ⟨_, SqL.of upd_same⟩, fun D hD => ?_⟩
    obtain ⟨db, dg, dc⟩ := (B.same s1).ne hD
    have Dp_ : D ≠ p := fun e => by rw [e, upd_same] at hD; cases hD
    have nD : H D = none := s1.free hD
    refine lc_list (K := K) (a := p) (xs := ys.map V.str) (fun i H' => ∃ sm : List Str, sm.Sublist (ys.take i) ∧ H' D = some (.lst (sm.map V.str)) ∧ H' p = some (.lst (ys.map V.str)) ∧ Box H' b g c (n + i) ∧ But b g H H')
      ⟨[], List.Sublist.refl _, upd_same, by rw [upd_ne Dp_.symm]; exact upd_same, (B.same s1).off db dg dc, ((But.of s1).trans (But.of (same_new hD _)))⟩ (fun i H' _ h => by obtain ⟨_, _, _, h, _⟩ := h; exact SqL.of h) ?_ ?_
    · rintro i x H2 hx ⟨sm, sb, hDs, hps, B2, b2⟩
      rw [List.getElem?_map] at hx
      obtain ⟨y, hy, rfl⟩ : ∃ y, ys[i]? = some y ∧ V.str y = x := by
        cases z : ys[i]? with
        | none => rw [z] at hx; cases hx
        | some y => rw [z] at hx; exact ⟨y, rfl, Option.some.inj hx⟩
      have hi := get_lt hy
      have lsm := sb.length_le
      rw [List.length_take] at lsm
      refine ⟨rfl, _, rfl, b, g, c, _, 3, rfl, B2, by omega, by decide, pow8000' 3 2 (by decide) (by decide), fun x H3 x0 x1 B3 b3 => ⟨_, _, rfl, rfl, _, rfl, ?_⟩⟩
      have hD3 := b3 D _ hDs db dg
      have hp3 := b3 p _ hps pb pg
      refine ite2 (fun _ => ?_) (fun _ => ?_)
      · refine ⟨_, rfl, _, hD3, (by rw [List.length_map]; exact small1000 (by omega)), sm ++ [y], ?_, by rw [upd_same, List.map_append]; rfl, by rw [upd_ne Dp_.symm]; exact hp3, (B3.off db dg dc).mono (by omega), fun a o h h1 h2 => by rw [upd_ne (ne_of_none h nD)]; exact b3 a o (b2 a o h h1 h2) h1 h2⟩
        rw [take_more hy]
        exact sb.append (List.Sublist.refl _)
      · refine ⟨sm, ?_, hD3, hp3, B3.mono (by omega), b2.trans b3⟩
        rw [take_more hy]
        exact sb.trans (List.sublist_append_left _ _)
    · rintro H2 ⟨sm, sb, hDs, hps, B2, b2⟩
      rw [List.length_map] at B2 sb
      rw [List.take_length] at sb
      have lsm := sb.length_le
      have ndsm : sm.Nodup := sb.nodup (pm.nodup_iff.mpr DM.nd)
      have smks : ∀ x ∈ sm, x ∈ ks := fun x hx => pm.mem_iff.mp (sb.subset hx)
      have D2 : DZ K (mk b g H2) d ks zf := DM.keep (mk_but b2)
      -- the pairs
      refine ⟨_, rfl, _, rfl, D, rfl, ⟨_, SqL.of hDs⟩, fun D2a hD2a => ?_⟩
      obtain ⟨eb, eg, ec⟩ := B2.ne hD2a
      have DD2 : D ≠ D2a := fun e => by rw [← e, hDs] at hD2a; cases hD2a
      refine lc_list (K := K) (a := D) (xs := sm.map V.str) (fun i H' => ∃ prs : List (Addr × Str), prs.length = i ∧ prs.map (·.2) = sm.take i ∧ H' D2a = some (.lst (prs.map fun p => V.ref p.1)) ∧ (∀ p ∈ prs, PrAt K (hide D2a (mk b g H')) zf p) ∧ H' D = some (.lst (sm.map V.str)) ∧ Box H' b g c (n + 6 + i) ∧ But b g H2 H')
        ⟨[], rfl, rfl, upd_same, (fun p h => by cases h), by rw [upd_ne DD2]; exact hDs, (B2.off eb eg ec).mono (by omega), But.of (same_new hD2a _)⟩ (fun i H' _ h => by obtain ⟨_, _, _, _, _, h, _⟩ := h; exact SqL.of h) ?_ ?_
      · rintro i x H3 hx ⟨prs, lp, hnames, hD2s, hpr, hDs3, B3, b3⟩
        rw [List.getElem?_map] at hx
        obtain ⟨y, hy, rfl⟩ : ∃ y, sm[i]? = some y ∧ V.str y = x := by
          cases z : sm[i]? with
          | none => rw [z] at hx; cases hx
          | some y => rw [z] at hx; exact ⟨y, rfl, Option.some.inj hx⟩
        have hi := get_lt hy
        have yks := smks y (List.mem_of_getElem? hy)
        have D3 : DZ K (mk b g H3) d ks zf := D2.keep (mk_but b3)
        obtain ⟨o, hgetM, _, hin⟩ := D3.get y
        obtain ⟨u, rfl, hu⟩ := hin yks
        have hget : DGet H3 d (.str y) (some u) := by
          rcases hgetM with ⟨kv, k', rd, e1, e2⟩ | ⟨kv, k', b', rd, e1, e2⟩
          · exact .inl ⟨kv, k', rd.imp (mk_sub b g H3 _ _) (fun ⟨ob, h⟩ => ⟨ob, mk_sub b g H3 _ _ h⟩), e1, e2⟩
          · cases e1
        refine ⟨rfl, _, rfl, _, rfl, _, rfl, _, rfl, d, u, rfl, hget, b, g, c, u, _, zf y, rfl, B3, by omega, hu, (hz y yks).1, fun v2 H4 hv2 B4 b4 => ⟨(by show 2 ≤ sizeLine; decide), fun p4 np4 => ?_⟩⟩
        have s4 := same_new np4 (.tup [.str y, v2])
        have hD24 := b4 D2a _ hD2s eb eg
        have n42 : p4 ≠ D2a := fun e => by rw [e, hD24] at np4; cases np4
        have B5 := B4.same s4
        have hh : ∀ H' : Hp, hide D2a (mk b g (upd H' D2a (.lst ((prs.map fun p => V.ref p.1) ++ [.ref p4])))) = hide D2a (mk b g H') := fun H' => funext fun a => by
          unfold hide mk
          by_cases e : a = D2a
          · rw [if_pos e, if_pos e]
          · rw [if_neg e, if_neg e, upd_ne e]
        have hnv : Nv K (hide D2a (mk b g H4)) v2 (zf y) := by
          obtain ⟨e, he, hez⟩ := hv2
          rcases numOf_is hez with rfl | rfl
          · cases he
            exact ⟨_, .int _, hez⟩
          · obtain ⟨pr, rfl, hpr2⟩ := dp_rat_inv he
            refine ⟨_, .tup ?_ (.cons (.int _) (.cons (.int _) .nil)), hez⟩
            rcases hpr2 with (h | ⟨ob, h⟩) | h
            · exact .inl (.inl (hide_at h fun e => by rw [e] at h; have := mk_sub b g H4 _ _ h; rw [hD24] at this; cases this))
            · exact .inl (.inr ⟨ob, hide_at h fun e => by rw [e] at h; have := mk_sub b g H4 _ _ h; rw [hD24] at this; cases this⟩)
            · exact .inr h
        refine ⟨_, s4 _ _ hD24, (by rw [List.length_map]; exact small1000 (by omega)), prs ++ [(p4, y)], by rw [List.length_append, lp]; rfl, by rw [take_more hy, List.map_append, hnames]; rfl, by rw [upd_same, List.map_append]; rfl, ?_, by rw [upd_ne DD2]; exact s4 _ _ (b4 D _ hDs3 db dg), (B5.off eb eg ec).mono (by omega), ?_⟩
        · rw [hh]
          have sM : Same (hide D2a (mk b g H4)) (hide D2a (mk b g (upd H4 p4 (.tup [.str y, v2])))) := hide_mono (mk_but (But.of s4))
          intro q hq
          rcases List.mem_append.mp hq with hq | hq
          · exact ((hpr q hq).same (hide_mono (mk_but b4))).same sM
          · rw [List.mem_singleton.mp hq]
            exact ⟨v2, SqT.of (hide_at (mk_new B4 np4) n42), hnv.same sM⟩
        · intro a o h h1 h2
          rw [upd_ne (ne_of_none h hD2a)]
          exact s4 _ _ (b4 a o (b3 a o h h1 h2) h1 h2)
      · rintro H3 ⟨prs, lp, hnames, hD2s, hpr, hDs3, B3, b3⟩
        rw [List.length_map] at lp hnames B3
        rw [List.take_length] at hnames
        refine ⟨b, g, c, D2a, _, _, rfl, B3, by omega, hD2s, by rw [List.length_map]; omega, fun L ys2 H4 pm2 hL nL B4 b4 => ?_⟩
        obtain ⟨qs, rfl, pq⟩ := perm_back (f := fun p : Addr × Str => V.ref p.1) pm2 prs rfl
        obtain ⟨lb, lg, lc⟩ := B3.ne nL
        have lq : qs.length = sm.length := by rw [pq.length_eq, lp]
        have btH : But b g H H4 := (b2.trans b3).trans b4
        have fv4 : FormAt K (mk b g H4) v ts cc := fv.same (mk_but btH)
        have hpr4 : ∀ p ∈ qs, PrAt K (mk b g H4) zf p := fun p hp => ((hpr p (pq.mem_iff.mp hp)).same (hide_sub D2a _)).same (mk_but b4)
        have qnames : (qs.map (·.2)).Perm sm := by
          rw [← hnames]
          exact pq.map _
        have hDs4 := b4 D _ hDs3 db dg
        have D4 : DZ K (mk b g H4) d ks zf := DM.keep (mk_but btH)
        clear hpr hD2s hDs3 b4 b3 B3
        -- the names that lack
        have fvH := fv4.same (mk_sub b g H4)
        obtain ⟨a1, p1, xs1, c1, rfl, h1, hc1, n1, t1⟩ := fvH
        have lt1 := dps_len t1
        rw [List.length_map] at lt1
        refine ⟨_, rfl, a1, _, _, .ref p1, rfl, rfl, h1, rfl, p1, rfl, ⟨_, n1.sq⟩, fun D4a hD4a => ?_⟩
        refine lc_tup (K := K) (a := p1) (xs := xs1) (fun i H' => Same H4 H' ∧ H' D4a = some (.lst ((((ts.take i).map (·.1)).filter fun x => decide (x ∉ sm)).map V.str))) ⟨same_new hD4a _, upd_same⟩ (fun i H' _ h => (n1.same h.1).sq) ?_ ?_
        · rintro i x H5 hx ⟨s5, hacc⟩
          obtain ⟨dt, hdt, hdx⟩ := dps_get t1 hx
          rw [List.getElem?_map] at hdt
          obtain ⟨u, hu, rfl⟩ : ∃ u, ts[i]? = some u ∧ termN u.1 u.2 = dt := by
            cases z : ts[i]? with
            | none => rw [z] at hdt; cases hdt
            | some u => rw [z] at hdt; exact ⟨u, rfl, Option.some.inj hdt⟩
          have hi := get_lt hu
          have hdx2 : Dp K H5 x (.tuple [.str u.1, numD u.2]) := dp_same s5 _ _ hdx
          cases hdx2 with
          | @tup at_ zs_ _ hsz_ haz =>
            cases haz with
            | @cons n1_ _ _ _ hn haz =>
              cases haz with
              | @cons r1 _ _ _ hr1 haz =>
                cases haz
                cases hn
                have hnot := inV_strs u.1 sm
                have eb : (!inV (V.str u.1) (sm.map V.str)) = decide (u.1 ∉ sm) := by rw [hnot, decide_not]
                refine ⟨_, _, rfl, hsz_, rfl, _, _, rfl, _, _, rfl, rfl, rfl, _, rfl, _, rfl, D, _, rfl, .inl (SqL.of (s5 _ _ hDs4)), rfl, flat_strs sm, _, rfl, ?_⟩
                refine ite2 (fun m => ?_) (fun m => ?_)
                · have m2 := eb.symm.trans m
                  refine ⟨_, rfl, _, hacc, ?_, same_upd s5 hD4a, ?_⟩
                  · rw [List.length_map]
                    refine Nat.lt_of_le_of_lt (List.length_filter_le _ _) ?_
                    rw [List.length_map, List.length_take]
                    exact small1000 (by omega)
                  · rw [upd_same, take_more hu, List.map_append, List.filter_append]
                    show some (HO.lst _) = some (HO.lst ((_ ++ List.filter _ [u.1]).map V.str))
                    rw [List.filter_cons_of_pos (by exact m2), List.filter_nil, List.map_append]
                    rfl
                · have m2 := eb.symm.trans (Bool.eq_false_iff.mpr m)
                  refine ⟨s5, ?_⟩
                  rw [take_more hu, List.map_append, List.filter_append]
                  show _ = some (HO.lst ((_ ++ List.filter _ [u.1]).map V.str))
                  rw [List.filter_cons_of_neg (by rw [m2]; exact Bool.false_ne_true), List.filter_nil, List.append_nil]
                  exact hacc
        · rintro H5 ⟨s5, hgone⟩
          rw [lt1, List.take_length] at hgone
          generalize hgl : ((ts.map (·.1)).filter fun x => decide (x ∉ sm)) = gone at hgone
          have lgone : gone.length ≤ 6 := by
            rw [← hgl]
            refine Nat.le_trans (List.length_filter_le _ _) ?_
            rw [List.length_map]
            omega
          refine ⟨fun σ H' => ∃ pd dD, σ = [some (.ref b), some (.ref a1), some (.ref d), some (.ref D), some (.ref L), some (.ref D4a), some (.ref pd), none, none, none, none] ∧ Same H5 H' ∧ Dp K H' (.ref pd) dD ∧ (gone = [] → dD = toldW (worthz zf ts cc)) ∧ ∀ x rest, gone = x :: rest → dD = refW x, ?_, ?_⟩
          · refine ⟨_, rfl, D4a, _, rfl, .inl (SqL.of hgone), _, _, rfl, rfl, _, rfl, ?_⟩
            refine ite2 (fun c0 => ?_) (fun c0 => ?_)
            · have c1_ : 0 < gone.length := by
                have z := of_decide_eq_true c0
                rw [List.length_map] at z
                omega
              obtain ⟨x0, rest, hgr⟩ : ∃ x0 rest, gone = x0 :: rest := by
                cases gone with
                | nil => exact absurd c1_ (by decide)
                | cons x0 rest => exact ⟨x0, rest, rfl⟩
              rw [hgr] at hgone
              refine ⟨_, rfl, D4a, _, _, .str x0, rfl, rfl, SqL.of hgone, at_of (j := 0) rfl rfl, (by show 3 ≤ sizeLine; decide), fun p5 np5 => ?_⟩
              exact ⟨p5, refW x0, rfl, same_new np5 _, .tup (SqT.of upd_same) (.cons (.str _) (.cons (.str _) (.cons (.bl _) .nil))), (fun e => by rw [hgr] at e; cases e), fun x rest e => by rw [hgr] at e; cases e; rfl⟩
            · have c1_ : gone = [] := by
                cases hgr : gone with
                | nil => rfl
                | cons x0 rest =>
                  refine absurd ?_ c0
                  rw [hgr, List.length_map]
                  exact decide_eq_true (by rw [List.length_cons]; omega)
              refine ⟨_, rfl, _, rfl, _, d, ns, k, m, ts, cc, ks, zf, rfl, (fv4.same (mk_sub b g H4)).same s5, gt, (D4.keep (mk_sub b g H4)).keep s5, hsub, hz, hsz, by omega, fun r H6 s6 hr6 => ⟨(by show 2 ≤ sizeLine; decide), fun p5 np5 => ?_⟩⟩
              have s7 := same_new np5 (.tup [.str "told", r])
              exact ⟨p5, toldW (worthz zf ts cc), rfl, s6.trans s7, .tup (SqT.of upd_same) (.cons (.str _) (.cons (dp_same s7 _ _ hr6) .nil)), fun _ => rfl, fun x rest e => by rw [c1_] at e; cases e⟩
          · rintro σ H6 ⟨pd, dD, rfl, s6, hdue, hdt, hdr⟩
            have s46 := s5.trans s6
            have B6 := B4.same s46
            have hL6 := s46 _ _ hL
            refine ⟨_, rfl, _, rfl, L, _, rfl, SqL.of hL6, fun T1 o1 nT1 od1 => ?_⟩
            have s7 := same_new nT1 (.frz o1 (.tup (qs.map fun p => V.ref p.1)))
            have B7 := B6.same s7
            obtain ⟨tb, tg, _⟩ := B6.ne nT1
            have hL7 := s7 _ _ hL6
            have hT7 : (upd H6 T1 (.frz o1 (.tup (qs.map fun p => V.ref p.1)))) T1 = some (.frz o1 (.tup (qs.map fun p => V.ref p.1))) := upd_same
            have s47 := s46.trans s7
            generalize upd H6 T1 (.frz o1 (.tup (qs.map fun p => V.ref p.1))) = H7 at hL7 hT7 B7 s7 s47 ⊢
            refine ⟨(by show 2 ≤ sizeLine; decide), fun p20 np20 => ⟨_, rfl, b, g, c, _, 2, rfl, B7.same (same_new np20 _), (by omega), (by decide), (by decide), fun r20 H20 r020 r120 B20 bt20 => ?_⟩⟩
            have hp20 := But.new B7 np20 bt20
            have bu20 := But.after np20 bt20
            obtain ⟨v20, hv20, hat20⟩ := at_pick hp20 r020 r120 rfl
            refine ⟨p20, _, r20, v20, rfl, rfl, SqL.of hp20, hat20, ?_⟩
            have hL20 := bu20 L _ hL7 lb lg
            have hT20 := bu20 T1 _ hT7 tb tg
            have bt20 : But b g H H20 := (btH.trans (But.of s47)).trans bu20
            have hpr20 : ∀ p ∈ qs, PrAt K H20 zf p := fun p hp => (((hpr4 p hp).same (mk_but (But.of s47))).same (mk_but bu20)).same (mk_sub b g H20)
            have memq : ∀ x, x ∈ qs.map (·.2) ↔ x ∈ sm := fun x => qnames.mem_iff
            have qin : ∀ p ∈ qs, p.2 ∈ ks := fun p hp => smks _ ((memq _).mp (List.mem_map.mpr ⟨p, hp, rfl⟩))
            obtain ⟨ds, hds, lds, pds⟩ := pr_data hpr20 (fun p hp => hnm _ (qin p hp)) fun p hp => (hz _ (qin p hp)).2.mono hm8
            obtain ⟨kvs2, e1, e2, e3⟩ := pr_vals hpr20 (qnames.nodup_iff.mpr ndsm)
            have pick : ∃ h dd, v20 = .ref h ∧ (SqL K H20 h ((qs.map (·.1)).map V.ref) ∨ NdT H20 h ((qs.map (·.1)).map V.ref)) ∧ Dp K H20 (.ref h) dd ∧ (dd = .list ds ∨ dd = .tuple ds) := by
              have em : (qs.map (·.1)).map V.ref = qs.map fun p => V.ref p.1 := by rw [List.map_map]; rfl
              rw [em]
              simp only [List.mem_cons, List.not_mem_nil, or_false] at hv20
              rcases hv20 with e | e
              · exact ⟨L, .list ds, e, .inl (SqL.of hL20), .lst (SqL.of hL20) hds, .inl rfl⟩
              · exact ⟨T1, .tuple ds, e, .inr ⟨o1, hT20, od1⟩, .tup (NdT.sq ⟨o1, hT20, od1⟩) hds, .inr rfl⟩
            obtain ⟨h, dd, rfl, hseq, hdp, hdd⟩ := pick
            obtain ⟨k1, k2, k3, k4⟩ := passed_ok pds (by omega) hdd
            have fv20 : FormAt K H20 (.ref a1) ts cc := (((fv4.same (mk_but (But.of s47))).same (mk_but bu20)).same (mk_sub b g H20))
            have pd20 : Dp K H6 (.ref pd) dD := hdue
            refine ⟨_, rfl, h, dd, rfl, hdp, k1, k2, k3, k4, ?_⟩
            have fin : ∀ H', Same H20 H' → Q (.bl true) H' := fun H' sx => q H' ((B20.same sx).mono (by omega)) (bt20.trans (But.of sx))
            have nl : noList dD = true := by
              cases hgg : gone with
              | nil => rw [hdt hgg]; rfl
              | cons x r => rw [hdr x r hgg]; rfl
            have due20 : Dp K H20 (.ref pd) dD := dp_same (mk_sub b g H20) _ _ (dp_same (mk_but bu20) _ _ (dp_same (mk_but (But.of s7)) _ _ (dp_mk B6 _ _ nl pd20)))
            have again : ∀ H', Same H20 H' → Dp K H' (.ref h) dd := fun H' sx => dp_same sx _ _ hdp
            refine ⟨_, rfl, _, rfl, .ref a1, h, ns, k, m, ts, cc, qs.map (·.2), zf, rfl, fv20, gt, ⟨_, kvs2, hseq, e1, e2, qnames.nodup_iff.mpr ndsm, e3⟩, fun x hx => hz x (smks x ((memq x).mp hx)), hsz, by omega, fun hall pt r H21 s21 hpt hr21 => ?_, fun i u hu hin hno pt H21 s21 hpt => ?_⟩
            · have eg : gone = [] := by
                rw [← hgl, List.filter_eq_nil_iff]
                intro x hx
                obtain ⟨t, ht, rfl⟩ := List.mem_map.mp hx
                have := (memq _).mp (hall t ht)
                simp [this]
              have edD := hdt eg
              subst edD
              refine ⟨_, rfl, toldW (worthz zf ts cc), _, .tup (SqT.of hpt) (.cons (.str _) (.cons hr21 .nil)), dp_same s21 _ _ due20, shp_toldW _, shp_toldW _, _, rfl, ?_⟩
              refine iteP (PySem.SeqAt.eqv_refl _ (lay_toldW _)) ?_
              refine ⟨_, rfl, h, dd, rfl, again _ s21, k1, k2, k3, k4, _, rfl, rfl, ?_⟩
              have ee : decide (V.str (PyData.shown dd) = V.str (PyData.shown dd)) = true := decide_eq_true rfl
              rw [ee]
              exact fin _ s21
            · obtain ⟨rest, er⟩ := first_gone (sm := sm) hu (fun z hz' => (memq _).mp (hin z hz')) (fun z => hno ((memq _).mpr z))
              have edD := hdr u.1 rest (by rw [← hgl]; exact er)
              subst edD
              have so : PyData.strOk u.1 = true := name_ok (hnm _ (hsub _ (gt.names u (List.mem_of_getElem? hu))))
              refine ⟨_, rfl, refW u.1, _, .tup (SqT.of hpt) (.cons (.str _) (.cons (.str _) (.cons (.bl _) .nil))), dp_same s21 _ _ due20, shp_refW so, shp_refW so, _, rfl, ?_⟩
              refine iteP (PySem.SeqAt.eqv_refl _ (lay_refW so)) ?_
              refine ⟨_, rfl, h, dd, rfl, again _ s21, k1, k2, k3, k4, _, rfl, rfl, ?_⟩
              have ee : decide (V.str (PyData.shown dd) = V.str (PyData.shown dd)) = true := decide_eq_true rfl
              rw [ee]
              exact fin _ s21
end

/-! ### forms over good names: what the program's checks say of them -/
theorem FormK.formD {ns : List Str} {k : Nat} {ts : Ts} {c : Int × Int} (f : FormK ns k ts c) (hn : ∀ x ∈ ns, nameL x.cps.toList = true) : formD (formN ts c) = true := by
  show (isRat (numD c) && ((ts.map fun t => termN t.1 t.2).all termD && inOrder ((ts.map fun t => termN t.1 t.2).map fstName))) = true
  have rt : ∀ {z : Int × Int}, Red z → ratOf (numD z) = some z := fun {z} h => by
    show (if 1 ≤ z.2 ∧ Int.gcd z.1 z.2 = 1 then some (z.1, z.2) else none) = some z
    rw [if_pos ⟨h.pos, h.co⟩]
  have h1 : isRat (numD c) = true := by unfold isRat; rw [rt f.const.1]; rfl
  have h2 : (ts.map fun t => termN t.1 t.2).all termD = true := by
    rw [List.all_eq_true]
    intro d hd
    obtain ⟨t, ht, rfl⟩ := List.mem_map.mp hd
    obtain ⟨b, e, _⟩ := f.terms t ht
    show (nameL t.1.cps.toList && (match ratOf (numD t.2) with | some z => decide (z.1 ≠ 0) | none => false)) = true
    rw [rt b, hn _ (f.names t ht), Bool.true_and]
    exact decide_eq_true e
  have h3 : (ts.map fun t => termN t.1 t.2).map fstName = ts.map (·.1) := by rw [List.map_map]; rfl
  rw [h1, h2, h3, f.order]
  rfl
theorem shorts_all : ∀ {ds : List PyData}, (∀ d ∈ ds, shortD d = true) → shortDs ds = true
  | [], _ => rfl
  | d :: ds, h => by
    show (shortD d && shortDs ds) = true
    rw [h d (List.mem_cons_self ..), shorts_all fun e he => h e (List.mem_cons_of_mem _ he)]
    rfl
theorem name_short {x : Str} (h : nameL x.cps.toList = true) : shortD (.str x) = true := by
  refine decide_eq_true ?_
  unfold nameL at h
  rw [Bool.and_eq_true, Bool.and_eq_true, Bool.and_eq_true, Bool.and_eq_true, decide_eq_true_eq, decide_eq_true_eq] at h
  have z : x.cps.toList.length < 9 := h.1.1.1.2
  rw [Array.length_toList] at z
  exact Nat.le_of_lt (Nat.lt_of_lt_of_le z (by decide))
theorem FormK.short {ns : List Str} {k : Nat} {ts : Ts} {c : Int × Int} (f : FormK ns k ts c) (hn : ∀ x ∈ ns, nameL x.cps.toList = true) (h6 : ns.length ≤ 60) : shortD (formN ts c) = true := by
  have h1 : shortD (.tuple (ts.map fun t => termN t.1 t.2)) = true := by
    show (decide ((ts.map fun t => termN t.1 t.2).length ≤ 60) && shortDs _) = true
    rw [List.length_map, decide_eq_true (Nat.le_trans f.few h6), shorts_all]
    · rfl
    · intro d hd
      obtain ⟨t, ht, rfl⟩ := List.mem_map.mp hd
      show (true && (shortD (.str t.1) && ((true && (true && (true && true))) && true))) = true
      rw [name_short (hn _ (f.names t ht))]
      rfl
  show (true && (shortD (.tuple (ts.map fun t => termN t.1 t.2)) && ((true && (true && (true && true))) && true))) = true
  rw [h1]
  rfl
theorem FormK.lay {ns : List Str} {k : Nat} {ts : Ts} {c : Int × Int} (f : FormK ns k ts c) (hn : ∀ x ∈ ns, nameL x.cps.toList = true) : (formN ts c).canLay0 = true ∧ SeqAt.shaped (formN ts c) = true := by
  have key : ∀ {ts : Ts}, (∀ t ∈ ts, PyData.strOk t.1 = true) → PyData.canLayAll0 (ts.map fun t => termN t.1 t.2) = true ∧ PyData.depthAll (ts.map fun t => termN t.1 t.2) ≤ 2 := by
    intro ts
    induction ts with
    | nil => intro _; exact ⟨rfl, Nat.zero_le _⟩
    | cons t ts ih =>
      intro h
      obtain ⟨a, b⟩ := ih fun u hu => h u (List.mem_cons_of_mem _ hu)
      constructor
      · show ((PyData.strOk t.1 && ((true && (true && true)) && true)) && PyData.canLayAll0 _) = true
        rw [h t (List.mem_cons_self ..), a]
        rfl
      · show max (max 0 (max (max 0 (max 0 0) + 1) 0) + 1) (PyData.depthAll _) ≤ 2
        omega
  obtain ⟨a, b⟩ := key fun t ht => name_ok (hn _ (f.names t ht))
  have l : (formN ts c).canLay0 = true := by
    show (PyData.canLayAll0 _ && ((true && (true && true)) && true)) = true
    rw [a]
    rfl
  refine ⟨l, ?_⟩
  unfold SeqAt.shaped
  rw [l, Bool.true_and, decide_eq_true_eq]
  show max (PyData.depthAll _ + 1) (max (max 0 (max 0 0) + 1) 0) + 1 ≤ 64
  omega
theorem form_eqv {ns : List Str} {k : Nat} {ts us : Ts} {c e : Int × Int} (f : FormK ns k ts c) (hn : ∀ x ∈ ns, nameL x.cps.toList = true) (h1 : ts = us) (h2 : c = e) : PyData.eqv (formN ts c) (formN us e) = true := by
  subst h1 h2
  exact PySem.SeqAt.eqv_refl _ (f.lay hn).1
theorem num_eqv {a b : Int × Int} (h : a = b) : PyData.eqv (numD a) (numD b) = true := by
  subst h
  exact PySem.SeqAt.eqv_refl _ rfl
/-- a form that does not reach a list -/
theorem form_hide {K : PySem.W.Frag} {H : Hp} {D : Addr} {xs : List V} {v : V} {ts : Ts} {c : Int × Int} (h : FormAt K H v ts c) (hD : H D = some (.lst xs)) : FormAt K (hide D H) v ts c := by
  have sq : ∀ {a ys}, SqT K H a ys → SqT K (hide D H) a ys := fun {a ys} h => by
    rcases h with (h | ⟨o, h⟩) | h
    · exact .inl (.inl (hide_at h fun e => by rw [e, hD] at h; cases h))
    · exact .inl (.inr ⟨o, hide_at h fun e => by rw [e, hD] at h; cases h⟩)
    · exact .inr h
  have num : ∀ {u : V} {z : Int × Int}, Dp K H u (numD z) → Dp K (hide D H) u (numD z) := fun {u z} h => by
    obtain ⟨p, rfl, hp⟩ := dp_rat_inv h
    exact .tup (sq hp) (.cons (.int _) (.cons (.int _) .nil))
  have terms : ∀ {ts : Ts} {ys : List V}, DpAll K H ys (ts.map fun t => termN t.1 t.2) → DpAll K (hide D H) ys (ts.map fun t => termN t.1 t.2) := by
    intro ts
    induction ts with
    | nil => intro ys h; cases h; exact .nil
    | cons t ts ih =>
      intro ys h
      cases h with
      | @cons y _ ys _ hy hr =>
        have hy : Dp K H y (.tuple [.str t.1, numD t.2]) := hy
        cases hy with
        | @tup p zs _ hs ha =>
          cases ha with
          | @cons n _ _ _ hn ha =>
            cases ha with
            | @cons z _ _ _ hz ha =>
              cases ha
              exact .cons (.tup (sq hs) (.cons (by cases hn; exact .str _) (.cons (num hz) .nil))) (ih hr)
  obtain ⟨a, p, ys, vc, rfl, h1, h2, ⟨o, h3, od⟩, h4⟩ := h
  exact ⟨a, p, ys, vc, rfl, sq h1, num h2, ⟨o, hide_at h3 (fun e => by rw [e, hD] at h3; cases h3), od⟩, terms h4⟩
theorem mk_upd {b g d : Addr} {H : Hp} {o : HO} (n1 : d ≠ b) (n2 : d ≠ g) : mk b g (upd H d o) = upd (mk b g H) d o := funext fun a => by
  unfold mk
  by_cases e : a = d
  · subst e
    rw [if_neg (fun z => z.elim n1 n2), upd_same, upd_same]
  · rw [upd_ne e, upd_ne e]
theorem paired_same {K : PySem.W.Frag} {H H' : Hp} (s : Same H H') : ∀ {ps : List Addr} {kvs : List (Key × V)}, Paired (fun p kv => SqT K H p [kV kv.1, kv.2]) ps kvs → Paired (fun p kv => SqT K H' p [kV kv.1, kv.2]) ps kvs
  | _, _, .nil => .nil
  | _, _, .cons h t => .cons (same_seqT s h) (paired_same s t)
theorem sum_change {ns : List Str} (nd : ns.Nodup) {x : Str} (hx : x ∈ ns) (a v : Str → Rat) (u : Rat) : (ns.map fun y => a y * (if y = x then u else v y)).sum = (ns.map fun y => (if y = x then 0 else a y) * v y).sum + a x * u := by
  have e1 : (ns.map fun y => a y * (if y = x then u else v y)) = ns.map fun y => if x = y then a x * u else a y * v y := List.map_congr_left fun y _ => by
    by_cases e : y = x
    · rw [if_pos e, if_pos e.symm, e]
    · rw [if_neg e, if_neg (fun z => e z.symm)]
  have e2 : (ns.map fun y => (if y = x then 0 else a y) * v y) = ns.map fun y => if x = y then 0 else a y * v y := List.map_congr_left fun y _ => by
    by_cases e : y = x
    · rw [if_pos e, if_pos e.symm]
      grind
    · rw [if_neg e, if_neg (fun z => e z.symm)]
  rw [e1, e2, sum_at nd hx]
  grind

/-! ### k05: what the law compares, as sums -/
theorem good_formK {ns : List Str} {k : Nat} {ts : Ts} {c : Int × Int} (g : GoodF k ts c) (h : ∀ t ∈ ts, t.1 ∈ ns) : FormK ns k ts c := ⟨h, fun t ht => (g.terms t ht).2, g.order, g.const⟩
theorem formK_nil (ns : List Str) : FormK ns 1 [] (0, 1) := ⟨(fun _ h => nomatch h), (fun _ h => nomatch h), rfl, red_zero, zero_sz (Nat.le_refl _)⟩
theorem nil_sum {ns : List Str} {k : Nat} {ws : Ts} {z : Int × Int} (g : FormK ns k ws z) (h : ∀ x, cq ws x = 0) : ws = [] := form_ext g (formK_nil ns) fun x => by rw [h, cq_nil]
theorem neg_const {c : Int × Int} (h : Red c) : addz c (mulz (-1, 1) c) = (0, 1) := by
  have r := mul_red (red_one (-1)) h
  refine qv_inj (add_red h r) red_zero ?_
  rw [qv_add h r, qv_mul (red_one (-1)) h, qv_int, qv_zero]
  have e : ((-1 : Int) : Rat) = -1 := rfl
  rw [e]
  grind
theorem qv_neg1 : qv (-1, 1) = -1 := by
  rw [qv_int]
  rfl
section
variable {ns : List Str} {k : Nat} {ts us ws : Ts} {c e s : Int × Int} {zf : Str → Int × Int}
theorem worth_joint {i j : Nat} (nd : ns.Nodup) (hv : ∀ x ∈ ns, Red (zf x)) (f : FormK ns i ts c) (g : FormK ns j us e) (h : FormK ns k ws (addz c e)) (hw : ∀ x, cq ws x = cq ts x + cq us x) :
    worthz zf ws (addz c e) = addz (worthz zf ts c) (worthz zf us e) := by
  obtain ⟨r1, e1⟩ := f.worth nd hv
  obtain ⟨r2, e2⟩ := g.worth nd hv
  obtain ⟨r3, e3⟩ := h.worth nd hv
  refine qv_inj r3 (add_red r1 r2) ?_
  rw [e3, qv_add r1 r2, e1, e2, qv_add f.const.1 g.const.1]
  have z : (ns.map fun x => cq ws x * qv (zf x)) = ns.map fun x => cq ts x * qv (zf x) + cq us x * qv (zf x) := List.map_congr_left fun x _ => by
    rw [hw]
    grind
  rw [z, sum_add]
  grind
theorem worth_scaled {i : Nat} (nd : ns.Nodup) (hv : ∀ x ∈ ns, Red (zf x)) (rs : Red s) (f : FormK ns i ts c) (h : FormK ns k ws (mulz s c)) (hw : ∀ x, cq ws x = qv s * cq ts x) :
    worthz zf ws (mulz s c) = mulz s (worthz zf ts c) := by
  obtain ⟨r1, e1⟩ := f.worth nd hv
  obtain ⟨r3, e3⟩ := h.worth nd hv
  refine qv_inj r3 (mul_red rs r1) ?_
  rw [e3, qv_mul rs r1, e1, qv_mul rs f.const.1]
  have z : (ns.map fun x => cq ws x * qv (zf x)) = ns.map fun x => qv s * (cq ts x * qv (zf x)) := List.map_congr_left fun x _ => by
    rw [hw]
    grind
  rw [z, sum_mul]
  grind
theorem worth_put {i j : Nat} {x : Str} (nd : ns.Nodup) (hx : x ∈ ns) (hv : ∀ x ∈ ns, Red (zf x)) (i1 : 1 ≤ i) (f : FormK ns i ts c) (g : FormK ns j us e) (h : FormK ns k ws (addz c (mulz (cz ts x) e)))
    (hw : ∀ y, cq ws y = (if y = x then 0 else cq ts y) + cq ts x * cq us y) : worthz zf ws (addz c (mulz (cz ts x) e)) = worthz (fun y => if y = x then worthz zf us e else zf y) ts c := by
  obtain ⟨r2, e2⟩ := g.worth nd hv
  have hv2 : ∀ y ∈ ns, Red ((fun y => if y = x then worthz zf us e else zf y) y) := fun y hy => by
    show Red (if y = x then worthz zf us e else zf y)
    split
    · exact r2
    · exact hv y hy
  obtain ⟨r1, e1⟩ := f.worth nd hv2
  obtain ⟨r3, e3⟩ := h.worth nd hv
  have cok := (f.cz_ok i1 x).1
  refine qv_inj r3 r1 ?_
  rw [e3, e1, qv_add f.const.1 (mul_red cok g.const.1), qv_mul cok g.const.1, qv_cz]
  have z1 : (ns.map fun y => cq ts y * qv (if y = x then worthz zf us e else zf y)) = ns.map fun y => cq ts y * (if y = x then qv (worthz zf us e) else qv (zf y)) := List.map_congr_left fun y _ => by
    split <;> rfl
  have z2 : (ns.map fun y => cq ws y * qv (zf y)) = ns.map fun y => (if y = x then 0 else cq ts y) * qv (zf y) + cq ts x * (cq us y * qv (zf y)) := List.map_congr_left fun y _ => by
    rw [hw]
    grind
  rw [z1, z2, sum_add, sum_mul, sum_change nd hx (fun y => cq ts y) (fun y => qv (zf y)) (qv (worthz zf us e)), e2]
  grind
end
/-- a copy of a dict -/
theorem DZ.copy {K : PySem.W.Frag} {H : Hp} {d p : Addr} {ks : List Str} {zf : Str → Int × Int} {kvs : List (Key × V)} (D : DZ K H d ks zf) (h : H d = some (.dK kvs)) (np : H p = none) : DZ K (upd H p (.dK kvs)) p ks zf := by
  obtain ⟨kvs2, h1, h2, h3⟩ := D.at_
  rw [h] at h1
  cases h1
  refine ⟨D.nd, D.off, kvs, upd_same, h2, fun x hx => ?_⟩
  obtain ⟨v, e, hv⟩ := h3 x hx
  refine ⟨v, e, ?_⟩
  rw [hide_upd]
  exact dp_same (fun a o q => hide_at q (ne_of_none q np)) _ _ (dp_same (hide_sub d H) _ _ hv)
theorem hide_mk {b g D : Addr} {H : Hp} {o : HO} : hide D (mk b g (upd H D o)) = hide D (mk b g H) := funext fun a => by
  unfold hide mk
  by_cases e : a = D
  · rw [if_pos e, if_pos e]
  · rw [if_neg e, if_neg e, upd_ne e]
theorem shp_num (z : Int × Int) : SeqAt.shaped (numD z) = true := rfl
theorem num_hide {K : PySem.W.Frag} {H : Hp} {D : Addr} {xs : List V} {u : V} {z : Int × Int} (h : Dp K H u (numD z)) (hD : H D = some (.lst xs)) : Dp K (hide D H) u (numD z) := by
  obtain ⟨p, rfl, hp⟩ := dp_rat_inv h
  refine .tup ?_ (.cons (.int _) (.cons (.int _) .nil))
  rcases hp with (h | ⟨o, h⟩) | h
  · exact .inl (.inl (hide_at h fun e => by rw [e, hD] at h; cases h))
  · exact .inl (.inr ⟨o, hide_at h fun e => by rw [e, hD] at h; cases h⟩)
  · exact .inr h
theorem iteEqv {c : Bool} {A B : Prop} (hc : c = true) (h : B) : if (!c) = true then A else B := by
  rw [hc]
  exact iteF h

def spLaw (K : PySem.W.Frag) : Sp := fun vs H Q _ => ∃ (a : Addr) (ns : List Int), vs = [.ref a] ∧ SqL K H a (ns.map V.int) ∧ ns.length ≤ 63 ∧ ∀ H', Q (.bl true) H'
section
variable {P : Program} {w : World} {K : PySem.W.Frag} {mg : Str → Option Value} {base : Heap}
set_option maxHeartbeats 3200000 in
theorem ok_law (T : Bt mg) (Td : mg "dict" = none) (GB : Kn P w K mg base CX0 "_law_box" 1 ["_law_script"] (spBox K)) (GN : Kn P w K mg base CX0 "_law_names" 3 ["_law_box_here", "_law_many"] spNames)
    (GD : Kn P w K mg base CX0 "_law_drawn_form" 4 ["_law_box_here", "_law_names_here"] (spDrawnF K 40)) (GI : Kn P w K mg base CX0 "is_form" 4 ["value"] (spDS K formD)) (GT : Kn P w K mg base CX0 "_law_take" 2 ["_law_box_here", "_law_size"] spTake)
    (GM : Kn P w K mg base CX0 "_law_number" 3 ["_law_box_here"] (spNumK 40 6)) (GV : Kn P w K mg base CX0 "_law_given" 3 ["_law_box_here", "_law_number_here"] (spGivenD K)) (GA : Kn P w K mg base CX0 "add_forms" 3 ["one", "other"] (spAddF K))
    (GS : Kn P w K mg base CX0 "scale_form" 5 ["number", "form"] (spScaleF K)) (GU : Kn P w K mg base CX0 "substituted" 6 ["form", "name", "other"] (spSubst K)) (GJ : Kn P w K mg base CX0 "_law_joint" 4 ["_law_one", "_law_other"] (spJoint K))
    (GC : Kn P w K mg base CX0 "_law_scaled" 4 ["_law_by", "_law_form_here"] (spScaled K)) (GW : Kn P w K mg base CX0 "_law_worth" 4 ["_law_form_here", "_law_values"] (spWorth K)) (GP : Kn P w K mg base CX0 "_law_plus" 3 ["_law_one", "_law_other"] (spBinR K addz))
    (GX : Kn P w K mg base CX0 "_law_times" 3 ["_law_one", "_law_other"] (spBinR K mulz)) (GL : KnG P w K mg base CX0 "_law_lacking" 6 ["_law_box_here", "_law_form_here", "_law_values"] (spLack K))
    {f : Addr} {fd : FuncData} (F : Fun K "law" "law" s_law f fd) : FnG P w K mg base CX0 10 f fd ["_law_script"] (spLaw K) := by
  obtain ⟨f_l_box, fd_l_box, G_l_box, m_l_box, k_l_box, b_l_box⟩ := GB
  obtain ⟨f_l_names, fd_l_names, G_l_names, m_l_names, k_l_names, b_l_names⟩ := GN
  obtain ⟨f_l_drawn_form, fd_l_drawn_form, G_l_drawn_form, m_l_drawn_form, k_l_drawn_form, b_l_drawn_form⟩ := GD
  obtain ⟨f_is_form, fd_is_form, G_is_form, m_is_form, k_is_form, b_is_form⟩ := GI
  obtain ⟨f_l_take, fd_l_take, G_l_take, m_l_take, k_l_take, b_l_take⟩ := GT
  obtain ⟨f_l_number, fd_l_number, G_l_number, m_l_number, k_l_number, b_l_number⟩ := GM
  obtain ⟨f_l_given, fd_l_given, G_l_given, m_l_given, k_l_given, b_l_given⟩ := GV
  obtain ⟨f_add_forms, fd_add_forms, G_add_forms, m_add_forms, k_add_forms, b_add_forms⟩ := GA
  obtain ⟨f_scale_form, fd_scale_form, G_scale_form, m_scale_form, k_scale_form, b_scale_form⟩ := GS
  obtain ⟨f_substituted, fd_substituted, G_substituted, m_substituted, k_substituted, b_substituted⟩ := GU
  obtain ⟨f_l_joint, fd_l_joint, G_l_joint, m_l_joint, k_l_joint, b_l_joint⟩ := GJ
  obtain ⟨f_l_scaled, fd_l_scaled, G_l_scaled, m_l_scaled, k_l_scaled, b_l_scaled⟩ := GC
  obtain ⟨f_l_worth, fd_l_worth, G_l_worth, m_l_worth, k_l_worth, b_l_worth⟩ := GW
  obtain ⟨f_l_plus, fd_l_plus, G_l_plus, m_l_plus, k_l_plus, b_l_plus⟩ := GP
  obtain ⟨f_l_times, fd_l_times, G_l_times, m_l_times, k_l_times, b_l_times⟩ := GX
  obtain ⟨f_l_lacking, fd_l_lacking, G_l_lacking, m_l_lacking, k_l_lacking, b_l_lacking⟩ := GL
  refine okG F sc_law (k := 9) (fun vs H Q E h => ?_) (fun cdv A outer s H vs Q E hr hg h => ?_)
  · obtain ⟨a, ns, rfl, _⟩ := h
    rfl
  · obtain ⟨a, ns, rfl, hS, hl, q⟩ := h
    refine ⟨_, (pss_cons (ps_set (i := 1) sc_law.nd rfl (Or.inr rfl) (pe_call G_l_box (hr.mono (by omega)) rfl m_l_box k_l_box b_l_box .nil pass0 (pa_cons (pv 0) pa_nil)))
      (pss_cons (ps_set (i := 2) sc_law.nd rfl (Or.inr rfl) (pe_call G_l_names (hr.mono (by omega)) rfl m_l_names k_l_names b_l_names .nil pass0 (pa_cons (pv 1) (pa_cons pe_int pa_nil))))
      (pss_cons (ps_for PassesOwn.never rfl (pi_range1 rfl T.n_range (pa_cons pe_int pa_nil)) (pg_name (i := 3) sc_law.nd rfl (Or.inl rfl))
        (pss_cons (ps_asg (pe_lc (own := [("_law_k", 15)]) rfl sc_law.nd (pi_range1 rfl T.n_range (pa_cons pe_int pa_nil)) (blkOk_by (N := ["_law_script", "_law_box_here", "_law_names_here", "_law_turn", "_law_one", "_law_other", "_law_third", "_law_values", "_law_by", "_law_name", "_law_joint_here", "_law_longer", "_law_put", "_law_worths", "_law_changed", "_law_k", "_law_form_here"]) (sc := defScope s_law) (by decide +kernel)) (fun _ _ _ _ _ => (pg_name (i := 15) sc_law.nd rfl (Or.inl rfl))) (fun _ _ _ _ _ => pts_nil) (fun _ _ _ _ _ => (pe_call G_l_drawn_form (hr.mono (by omega)) rfl m_l_drawn_form k_l_drawn_form b_l_drawn_form .nil pass0 (pa_cons (pv 1) (pa_cons (pv 2) pa_nil))))) (pg_lst (by rfl) (pgs_cons (pg_name (i := 4) sc_law.nd rfl (Or.inl rfl)) (pgs_cons (pg_name (i := 5) sc_law.nd rfl (Or.inl rfl)) (pgs_cons (pg_name (i := 6) sc_law.nd rfl (Or.inl rfl)) pgs_nil)))))
      (pss_cons (ps_set (i := 7) sc_law.nd rfl (Or.inr rfl) (pe_callTy (call_dictS (K := K) rfl rfl) (by rfl) Td (by decide +kernel) (pa_cons (pe_lc (own := [("_law_name", 9)]) rfl sc_law.nd (pi_list (pv 2)) (blkOk_by (N := ["_law_script", "_law_box_here", "_law_names_here", "_law_turn", "_law_one", "_law_other", "_law_third", "_law_values", "_law_by", "_law_name", "_law_joint_here", "_law_longer", "_law_put", "_law_worths", "_law_changed", "_law_k", "_law_form_here"]) (sc := defScope s_law) (by decide +kernel)) (fun _ _ _ _ _ => (pg_name (i := 9) sc_law.nd rfl (Or.inl rfl))) (fun _ _ _ _ _ => pts_nil) (fun _ _ _ _ _ => (pe_tup (pa_cons (pv 9) (pa_cons (pe_call G_l_number (hr.mono (by omega)) rfl m_l_number k_l_number b_l_number .nil pass0 (pa_cons (pv 1) pa_nil)) pa_nil))))) pa_nil)))
      (pss_cons (ps_par (i := 8) (j := 9) (by rfl) sc_law.nd rfl rfl (by decide) rfl rfl (pa_cons (pe_call G_l_number (hr.mono (by omega)) rfl m_l_number k_l_number b_l_number .nil pass0 (pa_cons (pv 1) pa_nil)) (pa_cons (pe_ix ix_list (pv 2) (pe_call G_l_take (hr.mono (by omega)) rfl m_l_take k_l_take b_l_take .nil pass0 (pa_cons (pv 1) (pa_cons pe_int pa_nil))) (fun _ _ => rfl)) pa_nil)) (by rfl))
      (pss_cons (ps_par (i := 10) (j := 11) (by rfl) sc_law.nd rfl rfl (by decide) rfl rfl (pa_cons (pe_call G_add_forms (hr.mono (by omega)) rfl m_add_forms k_add_forms b_add_forms .nil pass0 (pa_cons (pv 4) (pa_cons (pv 5) pa_nil))) (pa_cons (pe_call G_scale_form (hr.mono (by omega)) rfl m_scale_form k_scale_form b_scale_form .nil pass0 (pa_cons (pe_call G_l_given (hr.mono (by omega)) rfl m_l_given k_l_given b_l_given .nil pass0 (pa_cons (pv 1) (pa_cons (pv 8) pa_nil))) (pa_cons (pv 4) pa_nil))) pa_nil)) (by rfl))
      (pss_cons (ps_set (i := 12) sc_law.nd rfl (Or.inl rfl) (pe_call G_substituted (hr.mono (by omega)) rfl m_substituted k_substituted b_substituted .nil pass0 (pa_cons (pv 4) (pa_cons (pv 9) (pa_cons (pv 5) pa_nil)))))
      (pss_cons (ps_if (PW.pt (pw_or (pt_not (pt_val (pe_callB (cr_all rfl) (by rfl) T.n_all (by decide +kernel) (pa_cons (pe_lc (own := [("_law_form_here", 16)]) rfl sc_law.nd (pi_tup (pe_tup (pa_cons (pv 10) (pa_cons (pv 11) (pa_cons (pv 12) pa_nil))))) (blkOk_by (N := ["_law_script", "_law_box_here", "_law_names_here", "_law_turn", "_law_one", "_law_other", "_law_third", "_law_values", "_law_by", "_law_name", "_law_joint_here", "_law_longer", "_law_put", "_law_worths", "_law_changed", "_law_k", "_law_form_here"]) (sc := defScope s_law) (by decide +kernel)) (fun _ _ _ _ _ => (pg_name (i := 16) sc_law.nd rfl (Or.inl rfl))) (fun _ _ _ _ _ => pts_nil) (fun _ _ _ _ _ => (pe_call G_is_form (hr.mono (by omega)) rfl m_is_form k_is_form b_is_form .nil pass0 (pa_cons (pv 16) pa_nil)))) pa_nil)))) (pw_or1 (pt_cmpR (op_neD hr.units) (pv 10) (pe_call G_l_joint (hr.mono (by omega)) rfl m_l_joint k_l_joint b_l_joint .nil pass0 (pa_cons (pv 4) (pa_cons (pv 5) pa_nil))) (nomark _))))) (pss_one (ps_ret pe_bl)) pss_nil)
      (pss_cons (ps_if (PW.pt (pw_or (pt_cmpR (op_neD hr.units) (pv 11) (pe_call G_l_scaled (hr.mono (by omega)) rfl m_l_scaled k_l_scaled b_l_scaled .nil pass0 (pa_cons (pv 8) (pa_cons (pv 4) pa_nil))) (nomark _)) (pw_or1 (pt_cmpR (op_neD hr.units) (pe_call G_add_forms (hr.mono (by omega)) rfl m_add_forms k_add_forms b_add_forms .nil pass0 (pa_cons (pv 5) (pa_cons (pv 4) pa_nil))) (pv 10) (nomark _))))) (pss_one (ps_ret pe_bl)) pss_nil)
      (pss_cons (ps_if (pt_cmpR (op_neD hr.units) (pe_call G_add_forms (hr.mono (by omega)) rfl m_add_forms k_add_forms b_add_forms .nil pass0 (pa_cons (pv 10) (pa_cons (pv 6) pa_nil))) (pe_call G_add_forms (hr.mono (by omega)) rfl m_add_forms k_add_forms b_add_forms .nil pass0 (pa_cons (pv 4) (pa_cons (pe_call G_add_forms (hr.mono (by omega)) rfl m_add_forms k_add_forms b_add_forms .nil pass0 (pa_cons (pv 5) (pa_cons (pv 6) pa_nil))) pa_nil))) (nomark _)) (pss_one (ps_ret pe_bl)) pss_nil)
      (pss_cons (ps_setLc (i := 13) (own := [("_law_form_here", 16)]) rfl sc_law.nd rfl rfl (sw_true rfl rfl rfl (by decide +kernel)) (pi_tup (pe_tup (pa_cons (pv 4) (pa_cons (pv 5) (pa_cons (pv 10) (pa_cons (pv 11) pa_nil)))))) (blkOk_by (N := ["_law_script", "_law_box_here", "_law_names_here", "_law_turn", "_law_one", "_law_other", "_law_third", "_law_values", "_law_by", "_law_name", "_law_joint_here", "_law_longer", "_law_put", "_law_worths", "_law_changed", "_law_k", "_law_form_here"]) (sc := defScope s_law) (by decide +kernel)) (fun _ _ _ _ _ => (pg_name (i := 16) sc_law.nd rfl (Or.inl rfl))) (fun _ _ _ _ _ => pts_nil) (fun _ _ _ _ _ => (pe_call G_l_worth (hr.mono (by omega)) rfl m_l_worth k_l_worth b_l_worth .nil pass0 (pa_cons (pv 16) (pa_cons (pv 7) pa_nil)))))
      (pss_cons (ps_if (PW.pt (pw_or (pt_cmpR (op_neD hr.units) (pe_ix ix_list (pv 13) pe_int (fun _ _ => rfl)) (pe_call G_l_plus (hr.mono (by omega)) rfl m_l_plus k_l_plus b_l_plus .nil pass0 (pa_cons (pe_ix ix_list (pv 13) pe_int (fun _ _ => rfl)) (pa_cons (pe_ix ix_list (pv 13) pe_int (fun _ _ => rfl)) pa_nil))) (nomark _)) (pw_or1 (pt_cmpR (op_neD hr.units) (pe_ix ix_list (pv 13) pe_int (fun _ _ => rfl)) (pe_call G_l_times (hr.mono (by omega)) rfl m_l_times k_l_times b_l_times .nil pass0 (pa_cons (pv 8) (pa_cons (pe_ix ix_list (pv 13) pe_int (fun _ _ => rfl)) pa_nil))) (nomark _))))) (pss_one (ps_ret pe_bl)) pss_nil)
      (pss_cons (ps_set (i := 14) sc_law.nd rfl (Or.inl rfl) (pe_callTy call_dictD (by rfl) Td (by decide +kernel) (pa_cons (pv 7) pa_nil)))
      (pss_cons (ps_asg (pe_ix ix_list (pv 13) pe_int (fun _ _ => rfl)) (pg_sub (pv 14) (pv 9) (set_dict (hu_of hr))))
      (pss_cons (ps_if (PW.pt (pw_or (pt_cmpR (op_neD hr.units) (pe_call G_l_worth (hr.mono (by omega)) rfl m_l_worth k_l_worth b_l_worth .nil pass0 (pa_cons (pv 12) (pa_cons (pv 7) pa_nil))) (pe_call G_l_worth (hr.mono (by omega)) rfl m_l_worth k_l_worth b_l_worth .nil pass0 (pa_cons (pv 4) (pa_cons (pv 14) pa_nil))) (nomark _)) (pw_or1 (pt_not (pt_val (pe_callG G_l_lacking (hr.mono (by omega)) hg rfl m_l_lacking k_l_lacking b_l_lacking pass0 (pa_cons (pv 1) (pa_cons (pv 4) (pa_cons (pv 7) pa_nil))))))))) (pss_one (ps_ret pe_bl)) pss_nil)
      (pss_one (ps_if (PW.pt (pw_or (pt_cmpR (op_neD hr.units) (pe_call G_add_forms (hr.mono (by omega)) rfl m_add_forms k_add_forms b_add_forms .nil pass0 (pa_cons (pv 4) (pa_cons (pe_call G_scale_form (hr.mono (by omega)) rfl m_scale_form k_scale_form b_scale_form .nil pass0 (pa_cons (pe_un un_neg pe_int) (pa_cons (pv 4) pa_nil))) pa_nil))) (pe_tup (pa_cons (pe_tup pa_nil) (pa_cons (pe_tup (pa_cons pe_int (pa_cons pe_int pa_nil))) pa_nil))) (nomark _)) (pw_or1 (pt_cmpR (op_neD hr.units) (pe_call G_scale_form (hr.mono (by omega)) rfl m_scale_form k_scale_form b_scale_form .nil pass0 (pa_cons pe_int (pa_cons (pv 4) pa_nil))) (pe_tup (pa_cons (pe_tup pa_nil) (pa_cons (pe_tup (pa_cons pe_int (pa_cons pe_int pa_nil))) pa_nil))) (nomark _))))) (pss_one (ps_ret pe_bl)) pss_nil))))))))))))))))
      (pss_one (ps_ret pe_bl))))), ?_⟩
    refine ⟨_, rfl, a, ns, rfl, hS, hl, fun b g c H0 B0 _ _ _ _ => ?_⟩
    refine ⟨_, rfl, b, g, c, _, rfl, B0, by decide, fun L nm H1 ln nd hnm hL nL B1 b1 => ?_⟩
    obtain ⟨lb, lg, _⟩ := B0.ne nL
    refine ⟨6, rfl, by decide, by decide, ?_⟩
    refine for_range (lo := 0) (n := 6) (fun i σ H' => ∃ o3 o4 o5 o6 o7 o8 o9 o10 o11 o12 o13 o14 o15 o16, σ = [some (.ref a), some (.ref b), some (.ref L), o3, o4, o5, o6, o7, o8, o9, o10, o11, o12, o13, o14, o15, o16] ∧ Box H' b g c (100 + i * 1000) ∧ H' L = some (.lst (nm.map V.str))) ⟨_, _, _, _, _, _, _, _, _, _, _, _, _, _, rfl, B1.mono (by omega), hL⟩ ?_ ?_
    · rintro i σ H2 hi ⟨o3, o4, o5, o6, o7, o8, o9, o10, o11, o12, o13, o14, o15, o16, rfl, B2, hL2⟩
      have hv : ∀ {H' : Hp}, But b g H2 H' → H' L = some (.lst (nm.map V.str)) := fun x => x L _ hL2 lb lg
      -- the three forms
      refine ⟨3, rfl, by decide, by decide, fun D hD => ?_⟩
      obtain ⟨db, dg, dc⟩ := B2.ne hD
      refine lc_range (lo := 0) (n := 3) (fun j H' => ∃ fs : List (V × Ts × (Int × Int)), fs.length = j ∧ H' D = some (.lst (fs.map (·.1))) ∧ (∀ f ∈ fs, FormAt K (hide D (mk b g H')) f.1 f.2.1 f.2.2 ∧ FormK nm 40 f.2.1 f.2.2) ∧ Box H' b g c (100 + i * 1000 + 60 * j) ∧ But b g H2 H')
        ⟨[], rfl, upd_same, (fun f h => nomatch h), B2.same (same_new hD _), But.of (same_new hD _)⟩ ?_ ?_
      · rintro j H3 hj ⟨fs, lf, hDf, hfs, B3, b3⟩
        refine ⟨rfl, _, rfl, _, rfl, b, g, c, L, _, nm, rfl, B3, by omega, hv b3, lb, lg, by omega, nd, hnm, fun r ts z H4 gd gn fr B4 b4 => ?_⟩
        have hD4 := b4 D _ hDf db dg
        refine ⟨_, hD4, (by rw [List.length_map, lf]; exact small1000 (by omega)), fs ++ [(r, ts, z)], by rw [List.length_append, lf]; rfl, by rw [upd_same, List.map_append]; rfl, fun f hf => ?_, (B4.off db dg dc).mono (by omega), ?_⟩
        · rw [hide_mk]
          rcases List.mem_append.mp hf with hf | hf
          · exact ⟨(hfs f hf).1.same (hide_mono (mk_but b4)), (hfs f hf).2⟩
          · rw [List.mem_singleton.mp hf]
            exact ⟨form_hide fr (mk_off hD4 db dg), good_formK gd gn⟩
        · intro a o h h1 h2
          rw [upd_ne (ne_of_none h hD)]
          exact b4 a o (b3 a o h h1 h2) h1 h2
      · rintro H3 ⟨fs, lf, hDf, hfs, B3, b3⟩
        obtain ⟨⟨v1, ts1, c1⟩, ⟨v2, ts2, c2⟩, ⟨v3, ts3, c3⟩, rfl⟩ : ∃ x y z, fs = [x, y, z] := by
          match fs, lf with
          | [x, y, z], _ => exact ⟨x, y, z, rfl⟩
        obtain ⟨f1, g1⟩ := hfs _ (List.mem_cons_self ..)
        obtain ⟨f2, g2⟩ := hfs _ (List.mem_cons_of_mem _ (List.mem_cons_self ..))
        obtain ⟨f3, g3⟩ := hfs _ (List.mem_cons_of_mem _ (List.mem_cons_of_mem _ (List.mem_cons_self ..)))
        replace f1 := f1.same (hide_sub D _)
        replace f2 := f2.same (hide_sub D _)
        replace f3 := f3.same (hide_sub D _)
        clear hfs
        refine ⟨D, _, rfl, SqL.of hDf, rfl, v1, _, rfl, v2, _, rfl, v3, _, rfl, rfl, ?_⟩
        clear hDf
        -- the values
        refine ⟨_, rfl, L, rfl, ⟨_, SqL.of (hv b3)⟩, fun D2 hD2 => ?_⟩
        obtain ⟨eb, eg, ec⟩ := B3.ne hD2
        have LD2 : L ≠ D2 := fun e => by rw [← e, hv b3] at hD2; cases hD2
        refine lc_list (K := K) (a := L) (xs := nm.map V.str) (fun j H' => ∃ (us : Ts) (xs : List V), xs.length = j ∧ us.map (·.1) = nm.take j ∧ (∀ u ∈ us, Red u.2 ∧ Sz 40 u.2) ∧ H' D2 = some (.lst xs) ∧ DpAll K (hide D2 (mk b g H')) xs (us.map fun u => termN u.1 u.2) ∧ Box H' b g c (300 + i * 1000 + 6 * j) ∧ But b g H3 H')
          ⟨[], [], rfl, rfl, (fun f h => nomatch h), upd_same, .nil, (B3.same (same_new hD2 _)).mono (by omega), But.of (same_new hD2 _)⟩ (fun j H' _ h => by obtain ⟨_, _, _, _, _, _, _, _, h⟩ := h; exact SqL.of (hv (b3.trans h))) ?_ ?_
        · rintro j x H4 hx ⟨us, xs, lx, hus, hz, hDx, hall, B4, b4⟩
          rw [List.getElem?_map] at hx
          obtain ⟨y, hy, rfl⟩ : ∃ y, nm[j]? = some y ∧ V.str y = x := by
            cases z : nm[j]? with
            | none => rw [z] at hx; cases hx
            | some y => rw [z] at hx; exact ⟨y, rfl, Option.some.inj hx⟩
          have hj := get_lt hy
          refine ⟨rfl, _, rfl, _, rfl, b, g, c, _, rfl, B4, by omega, fun pn zn H5 rz sz hpn B5 b5 => ⟨(by show 2 ≤ sizeLine; decide), fun p4 np4 => ?_⟩⟩
          have hpn5 := mk_tup B5 hpn
          have s4 := same_new np4 (.tup [.str y, .ref pn])
          have hD5 := b5 D2 _ hDx eb eg
          have n42 : p4 ≠ D2 := fun e => by rw [e, hD5] at np4; cases np4
          have npn : pn ≠ D2 := fun e => by rw [e, hD5] at hpn; cases hpn
          have sM : Same (mk b g H5) (mk b g (upd H5 p4 (.tup [.str y, .ref pn]))) := mk_but (But.of s4)
          refine ⟨xs, s4 _ _ hD5, by rw [lx]; exact small1000 (by omega), us ++ [(y, zn)], xs ++ [.ref p4], by rw [List.length_append, lx]; rfl, by rw [List.map_append, hus, take_more hy]; rfl, fun u hu => ?_, upd_same, ?_, ((B5.same s4).off eb eg ec).mono (by omega), ?_⟩
          · rcases List.mem_append.mp hu with hu | hu
            · exact hz u hu
            · rw [List.mem_singleton.mp hu]
              exact ⟨rz, sz⟩
          · rw [hide_mk, List.map_append]
            exact dps_snoc (dps_same (hide_mono (mk_but (b5.trans (But.of s4)))) _ _ hall) (.tup (SqT.of (hide_at (mk_new B5 np4) n42)) (.cons (.str y) (.cons (dp_rat (hide_at (sM _ _ hpn5) npn)) .nil)))
          · intro a o h h1 h2
            rw [upd_ne (ne_of_none h hD2)]
            exact s4 _ _ (b5 a o (b4 a o h h1 h2) h1 h2)
        · rintro H4 ⟨us, xs, lx, hus, hz, hDx, hall, B4, b4⟩
          rw [List.length_map] at lx hus B4
          rw [List.take_length] at hus
          obtain ⟨ps, kvs, rfl, hpair, hk, hat⟩ := pairs_at hall
          refine ⟨D2, ps, kvs, rfl, .inl (SqL.of hDx), paired_same ((hide_sub D2 _).trans (mk_sub b g H4)) hpair, fun d hd => ?_⟩
          obtain ⟨ub, ug, _⟩ := B4.ne hd
          have nmk : mk b g H4 d = none := by
            cases z : mk b g H4 d with
            | none => rfl
            | some o => exact absurd (mk_sub b g H4 _ _ z) (by rw [hd]; exact fun e => nomatch e)
          have D0 := DZ.make (K := K) (H := mk b g H4) (ts := us) (by rw [hus]; exact nd) nmk hk (fun i t h => by
            obtain ⟨v, e, hv⟩ := hat i t h
            exact ⟨v, e, dp_same (hide_sub D2 _) _ _ hv⟩)
          rw [← mk_upd ub ug, hus] at D0
          have hz0 : ∀ x ∈ nm, Red (cz us x) ∧ Sz 40 (cz us x) := fun x hx => by
            have ndu : (us.map (·.1)).Nodup := by rw [hus]; exact nd
            rw [← hus] at hx
            obtain ⟨t, ht, rfl⟩ := List.mem_map.mp hx
            rw [cz_mem ndu ht]
            exact hz t ht
          generalize cz us = zf at D0 hz0
          have s5 := same_new hd (.dK (mergeK [] kvs))
          have B5 := B4.same s5
          have b5 := b3.trans (b4.trans (But.of s5))
          replace f1 := f1.same (mk_but (b4.trans (But.of s5)))
          replace f2 := f2.same (mk_but (b4.trans (But.of s5)))
          replace f3 := f3.same (mk_but (b4.trans (But.of s5)))
          generalize upd H4 d (.dK (mergeK [] kvs)) = H5 at D0 B5 b5 f1 f2 f3 ⊢
          clear hall hat hpair hk hDx hz hus B3 B4 b3 b4 s5 hd
          have hL5 := hv b5
          -- the number and the name
          refine ⟨_, rfl, b, g, c, _, rfl, B5, by omega, fun pn zn H6 rz sz hpn B6 b6 => ⟨_, rfl, _, rfl, b, g, c, _, 6, rfl, B6, by omega, by decide, pow8000' 6 4 (by decide) (by decide), fun y H7 y0 y1 B7 b7 => ?_⟩⟩
          have hL7 := b7 L _ (b6 L _ hL5 lb lg) lb lg
          obtain ⟨k, rfl⟩ : ∃ k : Nat, y = (k : Int) := ⟨y.toNat, by omega⟩
          have hk : k < nm.length := by omega
          refine ⟨L, _, _, .str nm[k], rfl, rfl, SqL.of hL7, atI_nat (by rw [List.getElem?_map, List.getElem?_eq_getElem hk]; rfl), ?_⟩
          have hx := List.getElem_mem hk
          generalize nm[k] = x at hx ⊢
          have hpn7 := mk_tup B7 (b7.tup B6 hpn)
          have b57 := b6.trans b7
          have D7 : DZ K (mk b g H7) d nm zf := D0.keep (mk_but b57)
          replace f1 := f1.same (mk_but b57)
          replace f2 := f2.same (mk_but b57)
          replace f3 := f3.same (mk_but b57)
          clear D0 hpn B5 B6 hL5
          -- the sum, the multiple
          refine ⟨_, _, rfl, _, rfl, _, rfl, v1, v2, nm, 40, 40, ts1, ts2, c1, c2, rfl, f1.same (mk_sub b g H7), f2.same (mk_sub b g H7), g1, g2, by omega, by decide, by decide, by decide, fun rJ H8 wJ s8 fJ gJ hJ => ?_⟩
          have B8 := B7.same s8
          replace fJ := form_mk B8 fJ
          have hpn8 := mk_but (But.of s8) _ _ hpn7
          refine ⟨_, rfl, _, rfl, b, g, c, .ref pn, _, zn, rfl, B8, by omega, dp_rat hpn8, rz, fun u H9 hu B9 b9 => ?_⟩
          have b79 := (But.of s8).trans b9
          replace f1 := f1.same (mk_but b79)
          replace f2 := f2.same (mk_but b79)
          replace f3 := f3.same (mk_but b79)
          replace fJ := fJ.same (mk_but b9)
          have D9 : DZ K (mk b g H9) d nm zf := D7.keep (mk_but b79)
          have hpn9 := mk_but b9 _ _ hpn8
          have hL9 := b79 L _ hL7 lb lg
          refine ⟨_, rfl, u, v1, nm, 40, 40, zn, ts1, c1, rfl, hu.same (mk_sub b g H9), sz, f1.same (mk_sub b g H9), g1, by omega, by decide, by decide, fun rL H10 wL s10 fL gL hL' => ?_⟩
          have s10m := mk_but (But.of s10 : But b g H9 H10)
          -- the form put in
          refine ⟨_, _, rfl, _, rfl, _, rfl, _, rfl, v1, v2, x, nm, 40, 40, ts1, ts2, c1, c2, rfl, (f1.same (mk_sub b g H9)).same s10, (f2.same (mk_sub b g H9)).same s10, g1, g2, by omega, by decide, by decide, by decide, fun rP H11 wP s11 fP gP hP => ?_⟩
          have s911 := s10.trans s11
          have B11 := B9.same s911
          have f1m := f1.same (mk_but (But.of s911))
          have D11m : DZ K (mk b g H11) d nm zf := D9.keep (mk_but (But.of s911))
          have hL11 := s911 _ _ hL9
          replace f1 := f1m.same (mk_sub b g H11)
          replace f2 := (f2.same (mk_but (But.of s911))).same (mk_sub b g H11)
          replace f3 := (f3.same (mk_but (But.of s911))).same (mk_sub b g H11)
          replace fJ := (fJ.same (mk_but (But.of s911))).same (mk_sub b g H11)
          replace fL := fL.same s11
          have D11 := D11m.keep (mk_sub b g H11)
          have hpn11 := s911 _ _ (mk_sub b g H9 _ _ hpn9)
          clear D9 hL9 hpn9 B9 b79 s911 s10m
          have hvz : ∀ y ∈ nm, Red (zf y) := fun y hy => (hz0 y hy).1
          have fm : ∀ y ∈ [rJ, rL, rP], ∃ e, Dp K H11 y e ∧ shortD e = true ∧ formD e = true := fun y hy => by
            simp only [List.mem_cons, List.not_mem_nil, or_false] at hy
            rcases hy with rfl | rfl | rfl
            · exact ⟨_, fJ.dp, gJ.short hnm (by omega), gJ.formD hnm⟩
            · exact ⟨_, fL.dp, gL.short hnm (by omega), gL.formD hnm⟩
            · exact ⟨_, fP.dp, gP.short hnm (by omega), gP.formD hnm⟩
          refine ⟨_, rfl, _, rfl, _, rfl, (by show 3 ≤ sizeLine; decide), fun pt npt => ⟨pt, rfl, ⟨_, SqT.of upd_same⟩, fun D3 hD3 => ?_⟩⟩
          have t1 := same_new npt (.tup [rJ, rL, rP])
          refine lc_tup (K := K) (a := pt) (xs := [rJ, rL, rP]) (fun j H' => Same (upd H11 pt (.tup [rJ, rL, rP])) H' ∧ H' D3 = some (.lst ((List.replicate j true).map V.bl))) ⟨same_new hD3 _, upd_same⟩ (fun j H' _ h => SqT.of (h.1 _ _ upd_same)) ?_ ?_
          · rintro j y H12 hy ⟨s12, hacc⟩
            obtain ⟨e, he, hs, hf⟩ := fm y (List.mem_of_getElem? hy)
            have hj : j < 3 := get_lt hy
            refine ⟨rfl, _, rfl, y, e, rfl, dp_same (t1.trans s12) _ _ he, hs, fun H13 s13 => ?_⟩
            rw [hf]
            refine ⟨_, s13 _ _ hacc, (by rw [List.length_map, List.length_replicate]; exact small1000 (by omega)), same_upd (s12.trans s13) hD3, ?_⟩
            rw [upd_same, List.replicate_succ', List.map_append]
            rfl
          · rintro H12 ⟨s12, hacc⟩
            refine ⟨D3, _, rfl, SqL.of hacc, _, rfl, ?_⟩
            refine iteEqv rfl ?_
            have sA := t1.trans s12
            -- the sum is the law's
            refine ⟨_, rfl, _, rfl, _, rfl, v1, v2, nm, 40, 40, ts1, ts2, c1, c2, rfl, f1.same sA, f2.same sA, g1, g2, by omega, by decide, by decide, by decide, fun r1 H13 w1 s13 k1 e1 q1 => ⟨_, _, (fJ.same (sA.trans s13)).dp, k1.dp, (gJ.lay hnm).2, (e1.lay hnm).2, _, rfl, ?_⟩⟩
            refine iteEqv (form_eqv gJ hnm (form_ext gJ e1 fun y => by rw [hJ, q1]) rfl) ?_
            have sB := sA.trans s13
            -- the multiple is the law's
            refine ⟨_, rfl, _, rfl, _, rfl, .ref pn, v1, nm, 40, 40, zn, ts1, c1, rfl, dp_rat (sB _ _ hpn11), rz, sz, f1.same sB, g1, by omega, by decide, by decide, fun r2 H14 w2 s14 k2 e2 q2 => ⟨_, _, (fL.same (sB.trans s14)).dp, k2.dp, (gL.lay hnm).2, (e2.lay hnm).2, _, rfl, ?_⟩⟩
            refine iteEqv (form_eqv gL hnm (form_ext gL e2 fun y => by rw [hL', q2]) rfl) ?_
            have sC := sB.trans s14
            -- the other order
            refine ⟨_, rfl, _, rfl, v2, v1, nm, 40, 40, ts2, ts1, c2, c1, rfl, f2.same sC, f1.same sC, g2, g1, by omega, by decide, by decide, by decide, fun r3 H15 w3 s15 k3 e3 q3 => ⟨_, rfl, _, _, k3.dp, (fJ.same (sC.trans s15)).dp, (e3.lay hnm).2, (gJ.lay hnm).2, _, rfl, ?_⟩⟩
            refine iteEqv (form_eqv e3 hnm (form_ext e3 gJ fun y => by rw [q3, hJ]; grind) (add_comm' c2 c1)) ?_
            have sD := sC.trans s15
            -- the other grouping
            refine ⟨_, rfl, _, rfl, rJ, v3, nm, 81, 40, wJ, ts3, addz c1 c2, c3, rfl, fJ.same sD, f3.same sD, gJ, g3, by omega, by decide, by decide, by decide, fun r4 H16 w4 s16 k4 e4 q4 => ⟨_, rfl, _, rfl, _, rfl, v2, v3, nm, 40, 40, ts2, ts3, c2, c3, rfl, f2.same (sD.trans s16), f3.same (sD.trans s16), g2, g3, by omega, by decide, by decide, by decide, fun r5 H17 w5 s17 k5 e5 q5 => ⟨v1, r5, nm, 40, 81, ts1, w5, c1, addz c2 c3, rfl, f1.same (sD.trans (s16.trans s17)), k5, g1, e5, by omega, by decide, by decide, by decide, fun r6 H18 w6 s18 k6 e6 q6 => ⟨_, _, (k4.same (s17.trans s18)).dp, k6.dp, (e4.lay hnm).2, (e6.lay hnm).2, _, rfl, ?_⟩⟩⟩⟩
            refine iteEqv (form_eqv e4 hnm (form_ext e4 e6 fun y => by rw [q4, q6, q5, hJ]; grind) (add_assoc' g1.const.1 g2.const.1 g3.const.1)) ?_
            have sE := sD.trans (s16.trans (s17.trans s18))
            clear k1 e1 q1 k2 e2 q2 k3 e3 q3 k4 e4 q4 k5 e5 q5 k6 e6 q6 s12 s13 s14 s15 s16 s17 s18 sA sB sC sD hacc fm
            replace f1 := f1.same sE
            replace f2 := f2.same sE
            replace fJ := fJ.same sE
            replace fL := fL.same sE
            replace fP := fP.same sE
            have D18 := D11.keep sE
            have hpn18 := sE _ _ hpn11
            -- the worths
            obtain ⟨rW1, _⟩ := g1.worth nd hvz
            obtain ⟨rW2, _⟩ := g2.worth nd hvz
            have few1 := g1.few
            have few2 := g2.few
            have sW : ∀ {ts : Ts} {c : Int × Int}, FormK nm 40 ts c → Sz 526 (worthz zf ts c) := fun {ts c} g => by
              have few := g.few
              refine (worth_sz (k := 40) (m := 40) (ts := ts) g.const.2 fun t ht => ⟨(g.terms t ht).2.2, (hz0 _ (g.names t ht)).2⟩).mono ?_
              have : ts.length * (40 + 40 + 1) ≤ 6 * (40 + 40 + 1) := Nat.mul_le_mul_right _ (by omega)
              omega
            have fw : ∀ (j : Nat) (y : V), [v1, v2, rJ, rL][j]? = some y → ∃ k ts c, FormAt K H18 y ts c ∧ FormK nm k ts c ∧ k ≤ 100 ∧ [worthz zf ts1 c1, worthz zf ts2 c2, worthz zf wJ (addz c1 c2), worthz zf wL (mulz zn c1)][j]? = some (worthz zf ts c) := fun j y h => by
              rcases j with _ | _ | _ | _ | j
              · cases h
                exact ⟨40, ts1, c1, f1, g1, by decide, rfl⟩
              · cases h
                exact ⟨40, ts2, c2, f2, g2, by decide, rfl⟩
              · cases h
                exact ⟨_, wJ, _, fJ, gJ, by decide, rfl⟩
              · cases h
                exact ⟨_, wL, _, fL, gL, by decide, rfl⟩
              · simp at h
            refine ⟨_, rfl, _, rfl, _, rfl, _, rfl, (by show 4 ≤ sizeLine; decide), fun pu npu => ⟨pu, rfl, ⟨_, SqT.of upd_same⟩, fun D4 hD4 => ?_⟩⟩
            have t2 := same_new npu (.tup [v1, v2, rJ, rL])
            refine lc_tup (K := K) (a := pu) (xs := [v1, v2, rJ, rL]) (fun j H' => Same (upd H18 pu (.tup [v1, v2, rJ, rL])) H' ∧ ∃ rs : List V, rs.length = j ∧ H' D4 = some (.lst rs) ∧ DpAll K (hide D4 H') rs (([worthz zf ts1 c1, worthz zf ts2 c2, worthz zf wJ (addz c1 c2), worthz zf wL (mulz zn c1)].take j).map numD)) ⟨same_new hD4 _, [], rfl, upd_same, .nil⟩ (fun j H' _ h => SqT.of (h.1 _ _ upd_same)) ?_ ?_
            · rintro j y H19 hy ⟨s19, rs, lr, hrs, hall⟩
              obtain ⟨kk, tt, cc, fy, gy, kle, hW⟩ := fw j y hy
              have hj : j < 4 := get_lt hy
              refine ⟨rfl, _, rfl, _, rfl, y, d, nm, kk, 40, tt, cc, nm, zf, rfl, fy.same (t2.trans s19), gy, D18.keep (t2.trans s19), (fun x h => h), hz0, by rw [ln]; omega, by omega, fun r H20 s20 hr20 => ?_⟩
              have hD20 := s20 _ _ hrs
              refine ⟨_, hD20, (by rw [lr]; exact small1000 (by omega)), same_upd (s19.trans s20) hD4, rs ++ [r], by rw [List.length_append, lr]; rfl, upd_same, ?_⟩
              rw [hide_upd, take_more hW, List.map_append]
              exact dps_snoc (dps_same (hide_mono s20) _ _ hall) (num_hide hr20 hD20)
            · rintro H19 ⟨s19, rs, lr, hrs, hall⟩
              obtain ⟨a1, a2, a3, a4, rfl⟩ : ∃ x y z u, rs = [x, y, z, u] := by
                match rs, lr with
                | [x, y, z, u], _ => exact ⟨x, y, z, u, rfl⟩
              have hall : DpAll K H19 [a1, a2, a3, a4] [numD (worthz zf ts1 c1), numD (worthz zf ts2 c2), numD (worthz zf wJ (addz c1 c2)), numD (worthz zf wL (mulz zn c1))] := dps_same (hide_sub D4 _) _ _ hall
              obtain ⟨d1, d2, d3, d4⟩ : Dp K H19 a1 (numD (worthz zf ts1 c1)) ∧ Dp K H19 a2 (numD (worthz zf ts2 c2)) ∧ Dp K H19 a3 (numD (worthz zf wJ (addz c1 c2))) ∧ Dp K H19 a4 (numD (worthz zf wL (mulz zn c1))) := by
                cases hall with
                | cons x1 h =>
                  cases h with
                  | cons x2 h =>
                    cases h with
                    | cons x3 h =>
                      cases h with
                      | cons x4 h => exact ⟨x1, x2, x3, x4⟩
              have sF := t2.trans s19
              -- the sum's worth
              refine ⟨_, rfl, D4, _, _, a3, rfl, rfl, SqL.of hrs, at_of (j := 2) rfl rfl, _, rfl, D4, _, _, a1, rfl, rfl, SqL.of hrs, at_of (j := 0) rfl rfl, _, rfl, D4, _, _, a2, rfl, rfl, SqL.of hrs, at_of (j := 1) rfl rfl, a1, a2, _, _, 526, 526, rfl, d1, d2, rW1, rW2, sW g1, sW g2, by decide, fun p5 H20 s20 hp5 => ⟨_, _, dp_same s20 _ _ d3, dp_rat hp5, shp_num _, shp_num _, _, rfl, ?_⟩⟩
              refine iteEqv (num_eqv (worth_joint nd hvz g1 g2 gJ hJ)) ?_
              have sG := sF.trans s20
              -- the multiple's worth
              refine ⟨_, rfl, D4, _, _, a4, rfl, rfl, SqL.of (s20 _ _ hrs), at_of (j := 3) rfl rfl, _, rfl, _, rfl, D4, _, _, a1, rfl, rfl, SqL.of (s20 _ _ hrs), at_of (j := 0) rfl rfl, .ref pn, a1, zn, _, 40, 526, rfl, dp_rat (sG _ _ hpn18), dp_same s20 _ _ d1, rz, rW1, sz, sW g1, by decide, fun p6 H21 s21 hp6 => ⟨_, _, dp_same (s20.trans s21) _ _ d4, dp_rat hp6, shp_num _, shp_num _, _, rfl, ?_⟩⟩
              refine iteEqv (num_eqv (worth_scaled nd hvz rz g1 gL hL')) ?_
              have sH := sG.trans s21
              have s1921 := s20.trans s21
              have D21 := D18.keep sH
              obtain ⟨kvs2, hd21, hk21, _⟩ := D21.at_
              -- the other dict
              refine ⟨_, rfl, d, kvs2, rfl, .inl hd21, fun dC nd2 => ?_⟩
              have s22 := same_new nd2 (.dK kvs2)
              have DC := D21.copy hd21 nd2
              have hd22 : (upd H21 dC (.dK kvs2)) dC = some (.dK kvs2) := upd_same
              have lk2 : kvs2.length = 6 := by rw [D21.len hd21, ln]
              refine ⟨_, rfl, D4, _, _, a2, rfl, rfl, SqL.of (s22 _ _ (s1921 _ _ hrs)), at_of (j := 1) rfl rfl, _, rfl, _, rfl, dC, _, rfl, .inl ⟨kvs2, Sum.inr x, hd22, rfl, small1000 (by omega), rfl⟩, ?_⟩
              have d2x : Dp K (hide dC (upd H21 dC (.dK kvs2))) a2 (numD (worthz zf ts2 c2)) := by
                rw [hide_upd]
                exact dp_same (fun a o q => hide_at q (ne_of_none q nd2)) _ _ (dp_same s1921 _ _ d2)
              have DP := DC.put hd22 (x := x) d2x
              have s23 : Same H21 (upd (upd H21 dC (.dK kvs2)) dC (.dK (putK kvs2 (Sum.inr x) a2))) := same_upd s22 nd2
              generalize upd (upd H21 dC (.dK kvs2)) dC (.dK (putK kvs2 (Sum.inr x) a2)) = H23 at DP s23 ⊢
              have sI := sH.trans s23
              have hzP : ∀ y ∈ addN nm x, Red ((fun y => if y = x then worthz zf ts2 c2 else zf y) y) ∧ Sz 526 ((fun y => if y = x then worthz zf ts2 c2 else zf y) y) := fun y hy => by
                show Red (if y = x then worthz zf ts2 c2 else zf y) ∧ Sz 526 (if y = x then worthz zf ts2 c2 else zf y)
                by_cases e : y = x
                · rw [if_pos e]
                  exact ⟨rW2, sW g2⟩
                · rw [if_neg e]
                  have z := hz0 y ((mem_addN.mp hy).resolve_right e)
                  exact ⟨z.1, z.2.mono (by decide)⟩
              -- the form put in has the worth of the form with the value put in
              refine ⟨_, rfl, _, rfl, rP, d, nm, _, 40, wP, _, nm, zf, rfl, fP.same sI, gP, D18.keep sI, (fun x h => h), hz0, by rw [ln]; decide, by omega, fun r7 H24 s24 hr7 => ⟨_, rfl, _, rfl, v1, dC, nm, 40, 526, ts1, c1, addN nm x, _, rfl, f1.same (sI.trans s24), g1, DP.keep s24, (fun y hy => mem_addN.mpr (.inl hy)), hzP, by rw [ln]; decide, by omega, fun r8 H25 s25 hr8 => ⟨_, _, dp_same s25 _ _ hr7, hr8, shp_num _, shp_num _, _, rfl, ?_⟩⟩⟩
              refine iteEqv (num_eqv (worth_put nd hx hvz (by decide) g1 g2 gP hP)) ?_
              have sJ := sI.trans (s24.trans s25)
              have sK := sE.trans sJ
              have f1k := f1m.same (mk_but (But.of sK))
              have DK := D11m.keep (mk_but (But.of sK))
              -- what lacks
              refine ⟨_, rfl, _, rfl, _, rfl, b, g, c, d, v1, _, 40, 40, nm, nm, ts1, c1, zf, rfl, B11.same sK, by omega, f1k, g1, (fun x h => h), DK, hnm, by omega, by omega, hz0, by decide, by rw [ln]; decide, fun H26 B26 b26 => ⟨_, rfl, ?_⟩⟩
              refine iteEqv rfl ?_
              have hL26 := b26 L _ (sK _ _ hL11) lb lg
              have f1z := f1k.same (mk_but b26)
              replace f1z := f1z.same (mk_sub b g H26)
              refine ⟨_, rfl, 1, rfl, _, rfl, .int (-1), v1, nm, 1, 40, (-1, 1), ts1, c1, rfl, Nv.int (-1), ⟨by decide, by decide⟩, f1z, g1, by omega, by decide, by decide, fun r9 H27 w9 s27 k9 e9 q9 => ⟨v1, r9, nm, 40, 41, ts1, w9, c1, mulz (-1, 1) c1, rfl, f1z.same s27, k9, g1, e9, by omega, by decide, by decide, by decide, fun rA H28 wA s28 kA eA qA => ⟨(by show 0 ≤ sizeLine; decide), fun p1 np1 => ⟨(by show 2 ≤ sizeLine; decide), fun p2 np2 => ⟨(by show 2 ≤ sizeLine; decide), fun p3 np3 => ?_⟩⟩⟩⟩⟩
              have u1 := same_new np1 (.tup [])
              have u2 := same_new np2 (.tup [.int 0, .int 1])
              have u3 := same_new np3 (.tup [.ref p1, .ref p2])
              refine ⟨_, formN [] (0, 1), (kA.same (u1.trans (u2.trans u3))).dp, .tup (SqT.of upd_same) (.cons (.tup (SqT.of (u3 _ _ (u2 _ _ upd_same))) .nil) (.cons (dp_rat (u3 _ _ upd_same)) .nil)), (eA.lay hnm).2, rfl, _, rfl, ?_⟩
              refine iteEqv (form_eqv eA hnm (nil_sum eA fun y => by rw [qA, q9, qv_neg1]; grind) (neg_const g1.const.1)) ?_
              have sM := s27.trans (s28.trans (u1.trans (u2.trans u3)))
              refine ⟨_, rfl, .int 0, v1, nm, 1, 40, (0, 1), ts1, c1, rfl, Nv.int 0, ⟨by decide, by decide⟩, f1z.same sM, g1, by omega, by decide, by decide, fun rB H29 wB s29 kB eB qB => ⟨(by show 0 ≤ sizeLine; decide), fun p4 np4 => ⟨(by show 2 ≤ sizeLine; decide), fun p5 np5 => ⟨(by show 2 ≤ sizeLine; decide), fun p6 np6 => ?_⟩⟩⟩⟩
              have u4 := same_new np4 (.tup [])
              have u5 := same_new np5 (.tup [.int 0, .int 1])
              have u6 := same_new np6 (.tup [.ref p4, .ref p5])
              refine ⟨_, formN [] (0, 1), (kB.same (u4.trans (u5.trans u6))).dp, .tup (SqT.of upd_same) (.cons (.tup (SqT.of (u6 _ _ (u5 _ _ upd_same))) .nil) (.cons (dp_rat (u6 _ _ upd_same)) .nil)), (eB.lay hnm).2, rfl, _, rfl, ?_⟩
              refine iteEqv (form_eqv eB hnm (nil_sum eB fun y => by rw [qB, qv_zero]; grind) (mul_zero' g1.const.1)) ?_
              have sN := sM.trans (s29.trans (u4.trans (u5.trans u6)))
              exact ⟨_, _, _, _, _, _, _, _, _, _, _, _, _, _, rfl, (B26.same sN).mono (by omega), sN _ _ hL26⟩
    · rintro σ H2 ⟨o3, o4, o5, o6, o7, o8, o9, o10, o11, o12, o13, o14, o15, o16, rfl, B2, hL2⟩
      exact q H2
end

theorem walkG {l : PySem.W.OpenLaw} {q : Program} {loose : List Str} {XP : (Str → Option Value) → Heap → Prop} {YP : World → Heap → Prop} {d : DefRec} {K : Params → PySem.W.Frag} (hn : l.most = some 63) (hdf : d.params.defaults = [])
    (hY : ∀ (w : World) (h : Heap), YP w h → (K w.params).In h)
    (F : ∀ (w : World) (mg : Str → Option Value) (fa : Addr) (h : Heap), (K w.params).In h → h.Ns mainGlobals mg → mg d.name = some (.ref fa) →
      ∃ fd : FuncData, (∀ (s : Shared) (u : Value), BindsTo s fd ⟨[u], []⟩ [("_law_script", u)]) ∧ ∀ base : Heap, (K w.params).In base → base.Ns mainGlobals mg → FnG l.prog w (K w.params) mg base CX0 10 fa fd ["_law_script"] (spLaw (K w.params))) :
    PySem.W.WalkO q loose XP YP l.row.toRowW d [] (fun f vs => PySem.call f vs) := by
  refine Att.attach_call hn hdf fun w s0 s1 mg mb fa o pm cd doc a vs ns G Y ho hd hcd hmg hob hin hle hge => ?_
  have kx := hY w _ Y
  obtain ⟨fd, hb, hF⟩ := F w mg fa _ kx G.T.g hmg
  exact top_callG kx G.T.g G.T.b G.T.builtins G.T.nolimit hge hob hin (Nat.le_trans hle (by decide)) ⟨rfl, by decide, by decide⟩ hF hb fun H _ hS => ⟨a, ns, rfl, hS, hle, fun _ => rfl⟩

set_option maxHeartbeats 3200000 in
theorem all_mk {l : PySem.W.OpenLaw} {w : World} {K : PySem.W.Frag} {h : Heap} {mg : Str → Option Value} {fa : Addr} (X : K.In h) (G : h.Ns mainGlobals mg) (hfa : mg "law" = some (.ref fa))
    {f_is_whole f_is_ratio f_as_ratio f_add_ratios f_multiply_ratios f_is_name f_is_form f_is_term f_constant_form f_factor_in f_add_forms f_scale_form f_substituted f_value_at f_l_box f_l_mixed f_l_take f_l_shuffled f_l_names f_l_shared f_l_ratio f_l_plus f_l_times f_l_number f_l_given f_l_form f_l_joint f_l_scaled f_l_worth f_l_drawn_form f_l_worth_told f_l_lacking f_law f_ratio T_ratio C_SheetError C_ZeroBottom C_InvalidNumber C_UnknownCell f_InvalidNumber_init f_UnknownCell_init Z_FUNCTION_WORDS Z_ZERO : Addr}
    {od_is_whole : Option Addr}
    {an_is_whole : Option Addr}
    {sl_is_whole : Array (Option Value)}
    {oc_is_whole : Value}
    {kV_is_whole : Value}
    {dc_is_whole : Value}
    {pm_is_whole : Value}
    {cd_is_whole : Value}
    {ct_is_whole : Value}
    {od_is_ratio : Option Addr}
    {an_is_ratio : Option Addr}
    {sl_is_ratio : Array (Option Value)}
    {oc_is_ratio : Value}
    {kV_is_ratio : Value}
    {dc_is_ratio : Value}
    {pm_is_ratio : Value}
    {cd_is_ratio : Value}
    {ct_is_ratio : Value}
    {od_as_ratio : Option Addr}
    {an_as_ratio : Option Addr}
    {sl_as_ratio : Array (Option Value)}
    {oc_as_ratio : Value}
    {kV_as_ratio : Value}
    {dc_as_ratio : Value}
    {pm_as_ratio : Value}
    {cd_as_ratio : Value}
    {ct_as_ratio : Value}
    {od_add_ratios : Option Addr}
    {an_add_ratios : Option Addr}
    {sl_add_ratios : Array (Option Value)}
    {oc_add_ratios : Value}
    {kV_add_ratios : Value}
    {dc_add_ratios : Value}
    {pm_add_ratios : Value}
    {cd_add_ratios : Value}
    {ct_add_ratios : Value}
    {od_multiply_ratios : Option Addr}
    {an_multiply_ratios : Option Addr}
    {sl_multiply_ratios : Array (Option Value)}
    {oc_multiply_ratios : Value}
    {kV_multiply_ratios : Value}
    {dc_multiply_ratios : Value}
    {pm_multiply_ratios : Value}
    {cd_multiply_ratios : Value}
    {ct_multiply_ratios : Value}
    {od_is_name : Option Addr}
    {an_is_name : Option Addr}
    {sl_is_name : Array (Option Value)}
    {oc_is_name : Value}
    {kV_is_name : Value}
    {dc_is_name : Value}
    {pm_is_name : Value}
    {cd_is_name : Value}
    {ct_is_name : Value}
    {od_is_form : Option Addr}
    {an_is_form : Option Addr}
    {sl_is_form : Array (Option Value)}
    {oc_is_form : Value}
    {kV_is_form : Value}
    {dc_is_form : Value}
    {pm_is_form : Value}
    {cd_is_form : Value}
    {ct_is_form : Value}
    {od_is_term : Option Addr}
    {an_is_term : Option Addr}
    {sl_is_term : Array (Option Value)}
    {oc_is_term : Value}
    {kV_is_term : Value}
    {dc_is_term : Value}
    {pm_is_term : Value}
    {cd_is_term : Value}
    {ct_is_term : Value}
    {od_constant_form : Option Addr}
    {an_constant_form : Option Addr}
    {sl_constant_form : Array (Option Value)}
    {oc_constant_form : Value}
    {kV_constant_form : Value}
    {dc_constant_form : Value}
    {pm_constant_form : Value}
    {cd_constant_form : Value}
    {ct_constant_form : Value}
    {od_factor_in : Option Addr}
    {an_factor_in : Option Addr}
    {sl_factor_in : Array (Option Value)}
    {oc_factor_in : Value}
    {kV_factor_in : Value}
    {dc_factor_in : Value}
    {pm_factor_in : Value}
    {cd_factor_in : Value}
    {ct_factor_in : Value}
    {od_add_forms : Option Addr}
    {an_add_forms : Option Addr}
    {sl_add_forms : Array (Option Value)}
    {oc_add_forms : Value}
    {kV_add_forms : Value}
    {dc_add_forms : Value}
    {pm_add_forms : Value}
    {cd_add_forms : Value}
    {ct_add_forms : Value}
    {od_scale_form : Option Addr}
    {an_scale_form : Option Addr}
    {sl_scale_form : Array (Option Value)}
    {oc_scale_form : Value}
    {kV_scale_form : Value}
    {dc_scale_form : Value}
    {pm_scale_form : Value}
    {cd_scale_form : Value}
    {ct_scale_form : Value}
    {od_substituted : Option Addr}
    {an_substituted : Option Addr}
    {sl_substituted : Array (Option Value)}
    {oc_substituted : Value}
    {kV_substituted : Value}
    {dc_substituted : Value}
    {pm_substituted : Value}
    {cd_substituted : Value}
    {ct_substituted : Value}
    {od_value_at : Option Addr}
    {an_value_at : Option Addr}
    {sl_value_at : Array (Option Value)}
    {oc_value_at : Value}
    {kV_value_at : Value}
    {dc_value_at : Value}
    {pm_value_at : Value}
    {cd_value_at : Value}
    {ct_value_at : Value}
    {od_l_box : Option Addr}
    {an_l_box : Option Addr}
    {sl_l_box : Array (Option Value)}
    {oc_l_box : Value}
    {kV_l_box : Value}
    {dc_l_box : Value}
    {pm_l_box : Value}
    {cd_l_box : Value}
    {ct_l_box : Value}
    {od_l_mixed : Option Addr}
    {an_l_mixed : Option Addr}
    {sl_l_mixed : Array (Option Value)}
    {oc_l_mixed : Value}
    {kV_l_mixed : Value}
    {dc_l_mixed : Value}
    {pm_l_mixed : Value}
    {cd_l_mixed : Value}
    {ct_l_mixed : Value}
    {od_l_take : Option Addr}
    {an_l_take : Option Addr}
    {sl_l_take : Array (Option Value)}
    {oc_l_take : Value}
    {kV_l_take : Value}
    {dc_l_take : Value}
    {pm_l_take : Value}
    {cd_l_take : Value}
    {ct_l_take : Value}
    {od_l_shuffled : Option Addr}
    {an_l_shuffled : Option Addr}
    {sl_l_shuffled : Array (Option Value)}
    {oc_l_shuffled : Value}
    {kV_l_shuffled : Value}
    {dc_l_shuffled : Value}
    {pm_l_shuffled : Value}
    {cd_l_shuffled : Value}
    {ct_l_shuffled : Value}
    {od_l_names : Option Addr}
    {an_l_names : Option Addr}
    {sl_l_names : Array (Option Value)}
    {oc_l_names : Value}
    {kV_l_names : Value}
    {dc_l_names : Value}
    {pm_l_names : Value}
    {cd_l_names : Value}
    {ct_l_names : Value}
    {od_l_shared : Option Addr}
    {an_l_shared : Option Addr}
    {sl_l_shared : Array (Option Value)}
    {oc_l_shared : Value}
    {kV_l_shared : Value}
    {dc_l_shared : Value}
    {pm_l_shared : Value}
    {cd_l_shared : Value}
    {ct_l_shared : Value}
    {od_l_ratio : Option Addr}
    {an_l_ratio : Option Addr}
    {sl_l_ratio : Array (Option Value)}
    {oc_l_ratio : Value}
    {kV_l_ratio : Value}
    {dc_l_ratio : Value}
    {pm_l_ratio : Value}
    {cd_l_ratio : Value}
    {ct_l_ratio : Value}
    {od_l_plus : Option Addr}
    {an_l_plus : Option Addr}
    {sl_l_plus : Array (Option Value)}
    {oc_l_plus : Value}
    {kV_l_plus : Value}
    {dc_l_plus : Value}
    {pm_l_plus : Value}
    {cd_l_plus : Value}
    {ct_l_plus : Value}
    {od_l_times : Option Addr}
    {an_l_times : Option Addr}
    {sl_l_times : Array (Option Value)}
    {oc_l_times : Value}
    {kV_l_times : Value}
    {dc_l_times : Value}
    {pm_l_times : Value}
    {cd_l_times : Value}
    {ct_l_times : Value}
    {od_l_number : Option Addr}
    {an_l_number : Option Addr}
    {sl_l_number : Array (Option Value)}
    {oc_l_number : Value}
    {kV_l_number : Value}
    {dc_l_number : Value}
    {pm_l_number : Value}
    {cd_l_number : Value}
    {ct_l_number : Value}
    {od_l_given : Option Addr}
    {an_l_given : Option Addr}
    {sl_l_given : Array (Option Value)}
    {oc_l_given : Value}
    {kV_l_given : Value}
    {dc_l_given : Value}
    {pm_l_given : Value}
    {cd_l_given : Value}
    {ct_l_given : Value}
    {od_l_form : Option Addr}
    {an_l_form : Option Addr}
    {sl_l_form : Array (Option Value)}
    {oc_l_form : Value}
    {kV_l_form : Value}
    {dc_l_form : Value}
    {pm_l_form : Value}
    {cd_l_form : Value}
    {ct_l_form : Value}
    {od_l_joint : Option Addr}
    {an_l_joint : Option Addr}
    {sl_l_joint : Array (Option Value)}
    {oc_l_joint : Value}
    {kV_l_joint : Value}
    {dc_l_joint : Value}
    {pm_l_joint : Value}
    {cd_l_joint : Value}
    {ct_l_joint : Value}
    {od_l_scaled : Option Addr}
    {an_l_scaled : Option Addr}
    {sl_l_scaled : Array (Option Value)}
    {oc_l_scaled : Value}
    {kV_l_scaled : Value}
    {dc_l_scaled : Value}
    {pm_l_scaled : Value}
    {cd_l_scaled : Value}
    {ct_l_scaled : Value}
    {od_l_worth : Option Addr}
    {an_l_worth : Option Addr}
    {sl_l_worth : Array (Option Value)}
    {oc_l_worth : Value}
    {kV_l_worth : Value}
    {dc_l_worth : Value}
    {pm_l_worth : Value}
    {cd_l_worth : Value}
    {ct_l_worth : Value}
    {od_l_drawn_form : Option Addr}
    {an_l_drawn_form : Option Addr}
    {sl_l_drawn_form : Array (Option Value)}
    {oc_l_drawn_form : Value}
    {kV_l_drawn_form : Value}
    {dc_l_drawn_form : Value}
    {pm_l_drawn_form : Value}
    {cd_l_drawn_form : Value}
    {ct_l_drawn_form : Value}
    {od_l_worth_told : Option Addr}
    {an_l_worth_told : Option Addr}
    {sl_l_worth_told : Array (Option Value)}
    {oc_l_worth_told : Value}
    {kV_l_worth_told : Value}
    {dc_l_worth_told : Value}
    {pm_l_worth_told : Value}
    {cd_l_worth_told : Value}
    {ct_l_worth_told : Value}
    {od_l_lacking : Option Addr}
    {an_l_lacking : Option Addr}
    {sl_l_lacking : Array (Option Value)}
    {oc_l_lacking : Value}
    {kV_l_lacking : Value}
    {dc_l_lacking : Value}
    {pm_l_lacking : Value}
    {cd_l_lacking : Value}
    {ct_l_lacking : Value}
    {od_law : Option Addr}
    {an_law : Option Addr}
    {sl_law : Array (Option Value)}
    {oc_law : Value}
    {kV_law : Value}
    {dc_law : Value}
    {pm_law : Value}
    {cd_law : Value}
    {ct_law : Value}
    {od_ratio : Option Addr}
    {an_ratio : Option Addr}
    {sl_ratio : Array (Option Value)}
    {oc_ratio : Value}
    {kV_ratio : Value}
    {dc_ratio : Value}
    {pm_ratio : Value}
    {cd_ratio : Value}
    {ct_ratio : Value}
    {to_ratio : Value}
    {td_ratio : Option Addr}
    {tn_ratio : Nat}
    {ts_ratio : Array (Option Value)}
    {tt_ratio : Tok}
    {nm_InvalidNumber q_InvalidNumber : Str}
    {N_InvalidNumber : Addr}
    {bs_InvalidNumber : List Value}
    {sn_InvalidNumber : List Str}
    {sub_InvalidNumber : List Value}
    {ab_InvalidNumber : Bool}
    {col_InvalidNumber : Option Bool}
    {dd_InvalidNumber : Option Addr}
    {m0_InvalidNumber m1_InvalidNumber m2_InvalidNumber m3_InvalidNumber m5_InvalidNumber : Option Value}
    {od_InvalidNumber_init : Option Addr}
    {an_InvalidNumber_init : Option Addr}
    {sl_InvalidNumber_init : Array (Option Value)}
    {oc_InvalidNumber_init : Value}
    {kV_InvalidNumber_init : Value}
    {dc_InvalidNumber_init : Value}
    {pm_InvalidNumber_init : Value}
    {cd_InvalidNumber_init : Value}
    {ct_InvalidNumber_init : Value}
    {nm_UnknownCell q_UnknownCell : Str}
    {N_UnknownCell : Addr}
    {bs_UnknownCell : List Value}
    {sn_UnknownCell : List Str}
    {sub_UnknownCell : List Value}
    {ab_UnknownCell : Bool}
    {col_UnknownCell : Option Bool}
    {dd_UnknownCell : Option Addr}
    {m0_UnknownCell m1_UnknownCell m2_UnknownCell m3_UnknownCell m5_UnknownCell : Option Value}
    {od_UnknownCell_init : Option Addr}
    {an_UnknownCell_init : Option Addr}
    {sl_UnknownCell_init : Array (Option Value)}
    {oc_UnknownCell_init : Value}
    {kV_UnknownCell_init : Value}
    {dc_UnknownCell_init : Value}
    {pm_UnknownCell_init : Value}
    {cd_UnknownCell_init : Value}
    {ct_UnknownCell_init : Value}
    {tk_NAME_LETTERS : Tok}
    {tz0_FUNCTION_WORDS : Tok}
    {tz1_FUNCTION_WORDS : Tok}
    {dz_FUNCTION_WORDS : Option Addr}
    {nz_FUNCTION_WORDS : Nat}
    {sz_FUNCTION_WORDS : Array (Option Value)}
    {tz0_ZERO : Tok}
    {tz1_ZERO : Tok}
    {dz_ZERO : Option Addr}
    {nz_ZERO : Nat}
    {sz_ZERO : Array (Option Value)}
    (a_is_whole : PySem.W.nsIn K mainGlobals "is_whole" = some (some (.ref f_is_whole)))
    (l_is_whole : K.lookup f_is_whole = some ⟨oc_is_whole, od_is_whole, .func (PySem.W.fnOf "is_whole" "is_whole" (defArgs s_is_whole) (defBody s_is_whole) (defScope s_is_whole) .none kV_is_whole dc_is_whole pm_is_whole an_is_whole cd_is_whole ct_is_whole), sl_is_whole⟩)
    (c_is_whole : PySem.W.codeIn K cd_is_whole "is_whole" = true)
    (k_is_whole : PySem.W.keepIn K (.ref f_is_whole) = true)
    (a_is_ratio : PySem.W.nsIn K mainGlobals "is_ratio" = some (some (.ref f_is_ratio)))
    (l_is_ratio : K.lookup f_is_ratio = some ⟨oc_is_ratio, od_is_ratio, .func (PySem.W.fnOf "is_ratio" "is_ratio" (defArgs s_is_ratio) (defBody s_is_ratio) (defScope s_is_ratio) .none kV_is_ratio dc_is_ratio pm_is_ratio an_is_ratio cd_is_ratio ct_is_ratio), sl_is_ratio⟩)
    (c_is_ratio : PySem.W.codeIn K cd_is_ratio "is_ratio" = true)
    (k_is_ratio : PySem.W.keepIn K (.ref f_is_ratio) = true)
    (a_as_ratio : PySem.W.nsIn K mainGlobals "as_ratio" = some (some (.ref f_as_ratio)))
    (l_as_ratio : K.lookup f_as_ratio = some ⟨oc_as_ratio, od_as_ratio, .func (PySem.W.fnOf "as_ratio" "as_ratio" (defArgs s_as_ratio) (defBody s_as_ratio) (defScope s_as_ratio) .none kV_as_ratio dc_as_ratio pm_as_ratio an_as_ratio cd_as_ratio ct_as_ratio), sl_as_ratio⟩)
    (c_as_ratio : PySem.W.codeIn K cd_as_ratio "as_ratio" = true)
    (k_as_ratio : PySem.W.keepIn K (.ref f_as_ratio) = true)
    (a_add_ratios : PySem.W.nsIn K mainGlobals "add_ratios" = some (some (.ref f_add_ratios)))
    (l_add_ratios : K.lookup f_add_ratios = some ⟨oc_add_ratios, od_add_ratios, .func (PySem.W.fnOf "add_ratios" "add_ratios" (defArgs s_add_ratios) (defBody s_add_ratios) (defScope s_add_ratios) .none kV_add_ratios dc_add_ratios pm_add_ratios an_add_ratios cd_add_ratios ct_add_ratios), sl_add_ratios⟩)
    (c_add_ratios : PySem.W.codeIn K cd_add_ratios "add_ratios" = true)
    (k_add_ratios : PySem.W.keepIn K (.ref f_add_ratios) = true)
    (a_multiply_ratios : PySem.W.nsIn K mainGlobals "multiply_ratios" = some (some (.ref f_multiply_ratios)))
    (l_multiply_ratios : K.lookup f_multiply_ratios = some ⟨oc_multiply_ratios, od_multiply_ratios, .func (PySem.W.fnOf "multiply_ratios" "multiply_ratios" (defArgs s_multiply_ratios) (defBody s_multiply_ratios) (defScope s_multiply_ratios) .none kV_multiply_ratios dc_multiply_ratios pm_multiply_ratios an_multiply_ratios cd_multiply_ratios ct_multiply_ratios), sl_multiply_ratios⟩)
    (c_multiply_ratios : PySem.W.codeIn K cd_multiply_ratios "multiply_ratios" = true)
    (k_multiply_ratios : PySem.W.keepIn K (.ref f_multiply_ratios) = true)
    (a_is_name : PySem.W.nsIn K mainGlobals "is_name" = some (some (.ref f_is_name)))
    (l_is_name : K.lookup f_is_name = some ⟨oc_is_name, od_is_name, .func (PySem.W.fnOf "is_name" "is_name" (defArgs s_is_name) (defBody s_is_name) (defScope s_is_name) .none kV_is_name dc_is_name pm_is_name an_is_name cd_is_name ct_is_name), sl_is_name⟩)
    (c_is_name : PySem.W.codeIn K cd_is_name "is_name" = true)
    (k_is_name : PySem.W.keepIn K (.ref f_is_name) = true)
    (a_is_form : PySem.W.nsIn K mainGlobals "is_form" = some (some (.ref f_is_form)))
    (l_is_form : K.lookup f_is_form = some ⟨oc_is_form, od_is_form, .func (PySem.W.fnOf "is_form" "is_form" (defArgs s_is_form) (defBody s_is_form) (defScope s_is_form) .none kV_is_form dc_is_form pm_is_form an_is_form cd_is_form ct_is_form), sl_is_form⟩)
    (c_is_form : PySem.W.codeIn K cd_is_form "is_form" = true)
    (k_is_form : PySem.W.keepIn K (.ref f_is_form) = true)
    (a_is_term : PySem.W.nsIn K mainGlobals "is_term" = some (some (.ref f_is_term)))
    (l_is_term : K.lookup f_is_term = some ⟨oc_is_term, od_is_term, .func (PySem.W.fnOf "is_term" "is_term" (defArgs s_is_term) (defBody s_is_term) (defScope s_is_term) .none kV_is_term dc_is_term pm_is_term an_is_term cd_is_term ct_is_term), sl_is_term⟩)
    (c_is_term : PySem.W.codeIn K cd_is_term "is_term" = true)
    (k_is_term : PySem.W.keepIn K (.ref f_is_term) = true)
    (a_constant_form : PySem.W.nsIn K mainGlobals "constant_form" = some (some (.ref f_constant_form)))
    (l_constant_form : K.lookup f_constant_form = some ⟨oc_constant_form, od_constant_form, .func (PySem.W.fnOf "constant_form" "constant_form" (defArgs s_constant_form) (defBody s_constant_form) (defScope s_constant_form) .none kV_constant_form dc_constant_form pm_constant_form an_constant_form cd_constant_form ct_constant_form), sl_constant_form⟩)
    (c_constant_form : PySem.W.codeIn K cd_constant_form "constant_form" = true)
    (k_constant_form : PySem.W.keepIn K (.ref f_constant_form) = true)
    (a_factor_in : PySem.W.nsIn K mainGlobals "factor_in" = some (some (.ref f_factor_in)))
    (l_factor_in : K.lookup f_factor_in = some ⟨oc_factor_in, od_factor_in, .func (PySem.W.fnOf "factor_in" "factor_in" (defArgs s_factor_in) (defBody s_factor_in) (defScope s_factor_in) .none kV_factor_in dc_factor_in pm_factor_in an_factor_in cd_factor_in ct_factor_in), sl_factor_in⟩)
    (c_factor_in : PySem.W.codeIn K cd_factor_in "factor_in" = true)
    (k_factor_in : PySem.W.keepIn K (.ref f_factor_in) = true)
    (a_add_forms : PySem.W.nsIn K mainGlobals "add_forms" = some (some (.ref f_add_forms)))
    (l_add_forms : K.lookup f_add_forms = some ⟨oc_add_forms, od_add_forms, .func (PySem.W.fnOf "add_forms" "add_forms" (defArgs s_add_forms) (defBody s_add_forms) (defScope s_add_forms) .none kV_add_forms dc_add_forms pm_add_forms an_add_forms cd_add_forms ct_add_forms), sl_add_forms⟩)
    (c_add_forms : PySem.W.codeIn K cd_add_forms "add_forms" = true)
    (k_add_forms : PySem.W.keepIn K (.ref f_add_forms) = true)
    (a_scale_form : PySem.W.nsIn K mainGlobals "scale_form" = some (some (.ref f_scale_form)))
    (l_scale_form : K.lookup f_scale_form = some ⟨oc_scale_form, od_scale_form, .func (PySem.W.fnOf "scale_form" "scale_form" (defArgs s_scale_form) (defBody s_scale_form) (defScope s_scale_form) .none kV_scale_form dc_scale_form pm_scale_form an_scale_form cd_scale_form ct_scale_form), sl_scale_form⟩)
    (c_scale_form : PySem.W.codeIn K cd_scale_form "scale_form" = true)
    (k_scale_form : PySem.W.keepIn K (.ref f_scale_form) = true)
    (a_substituted : PySem.W.nsIn K mainGlobals "substituted" = some (some (.ref f_substituted)))
    (l_substituted : K.lookup f_substituted = some ⟨oc_substituted, od_substituted, .func (PySem.W.fnOf "substituted" "substituted" (defArgs s_substituted) (defBody s_substituted) (defScope s_substituted) .none kV_substituted dc_substituted pm_substituted an_substituted cd_substituted ct_substituted), sl_substituted⟩)
    (c_substituted : PySem.W.codeIn K cd_substituted "substituted" = true)
    (k_substituted : PySem.W.keepIn K (.ref f_substituted) = true)
    (a_value_at : PySem.W.nsIn K mainGlobals "value_at" = some (some (.ref f_value_at)))
    (l_value_at : K.lookup f_value_at = some ⟨oc_value_at, od_value_at, .func (PySem.W.fnOf "value_at" "value_at" (defArgs s_value_at) (defBody s_value_at) (defScope s_value_at) .none kV_value_at dc_value_at pm_value_at an_value_at cd_value_at ct_value_at), sl_value_at⟩)
    (c_value_at : PySem.W.codeIn K cd_value_at "value_at" = true)
    (k_value_at : PySem.W.keepIn K (.ref f_value_at) = true)
    (a_l_box : PySem.W.nsIn K mainGlobals "_law_box" = some (some (.ref f_l_box)))
    (l_l_box : K.lookup f_l_box = some ⟨oc_l_box, od_l_box, .func (PySem.W.fnOf "_law_box" "_law_box" (defArgs s_l_box) (defBody s_l_box) (defScope s_l_box) .none kV_l_box dc_l_box pm_l_box an_l_box cd_l_box ct_l_box), sl_l_box⟩)
    (c_l_box : PySem.W.codeIn K cd_l_box "_law_box" = true)
    (k_l_box : PySem.W.keepIn K (.ref f_l_box) = true)
    (a_l_mixed : PySem.W.nsIn K mainGlobals "_law_mixed" = some (some (.ref f_l_mixed)))
    (l_l_mixed : K.lookup f_l_mixed = some ⟨oc_l_mixed, od_l_mixed, .func (PySem.W.fnOf "_law_mixed" "_law_mixed" (defArgs s_l_mixed) (defBody s_l_mixed) (defScope s_l_mixed) .none kV_l_mixed dc_l_mixed pm_l_mixed an_l_mixed cd_l_mixed ct_l_mixed), sl_l_mixed⟩)
    (c_l_mixed : PySem.W.codeIn K cd_l_mixed "_law_mixed" = true)
    (k_l_mixed : PySem.W.keepIn K (.ref f_l_mixed) = true)
    (a_l_take : PySem.W.nsIn K mainGlobals "_law_take" = some (some (.ref f_l_take)))
    (l_l_take : K.lookup f_l_take = some ⟨oc_l_take, od_l_take, .func (PySem.W.fnOf "_law_take" "_law_take" (defArgs s_l_take) (defBody s_l_take) (defScope s_l_take) .none kV_l_take dc_l_take pm_l_take an_l_take cd_l_take ct_l_take), sl_l_take⟩)
    (c_l_take : PySem.W.codeIn K cd_l_take "_law_take" = true)
    (k_l_take : PySem.W.keepIn K (.ref f_l_take) = true)
    (a_l_shuffled : PySem.W.nsIn K mainGlobals "_law_shuffled" = some (some (.ref f_l_shuffled)))
    (l_l_shuffled : K.lookup f_l_shuffled = some ⟨oc_l_shuffled, od_l_shuffled, .func (PySem.W.fnOf "_law_shuffled" "_law_shuffled" (defArgs s_l_shuffled) (defBody s_l_shuffled) (defScope s_l_shuffled) .none kV_l_shuffled dc_l_shuffled pm_l_shuffled an_l_shuffled cd_l_shuffled ct_l_shuffled), sl_l_shuffled⟩)
    (c_l_shuffled : PySem.W.codeIn K cd_l_shuffled "_law_shuffled" = true)
    (k_l_shuffled : PySem.W.keepIn K (.ref f_l_shuffled) = true)
    (a_l_names : PySem.W.nsIn K mainGlobals "_law_names" = some (some (.ref f_l_names)))
    (l_l_names : K.lookup f_l_names = some ⟨oc_l_names, od_l_names, .func (PySem.W.fnOf "_law_names" "_law_names" (defArgs s_l_names) (defBody s_l_names) (defScope s_l_names) .none kV_l_names dc_l_names pm_l_names an_l_names cd_l_names ct_l_names), sl_l_names⟩)
    (c_l_names : PySem.W.codeIn K cd_l_names "_law_names" = true)
    (k_l_names : PySem.W.keepIn K (.ref f_l_names) = true)
    (a_l_shared : PySem.W.nsIn K mainGlobals "_law_shared" = some (some (.ref f_l_shared)))
    (l_l_shared : K.lookup f_l_shared = some ⟨oc_l_shared, od_l_shared, .func (PySem.W.fnOf "_law_shared" "_law_shared" (defArgs s_l_shared) (defBody s_l_shared) (defScope s_l_shared) .none kV_l_shared dc_l_shared pm_l_shared an_l_shared cd_l_shared ct_l_shared), sl_l_shared⟩)
    (c_l_shared : PySem.W.codeIn K cd_l_shared "_law_shared" = true)
    (k_l_shared : PySem.W.keepIn K (.ref f_l_shared) = true)
    (a_l_ratio : PySem.W.nsIn K mainGlobals "_law_ratio" = some (some (.ref f_l_ratio)))
    (l_l_ratio : K.lookup f_l_ratio = some ⟨oc_l_ratio, od_l_ratio, .func (PySem.W.fnOf "_law_ratio" "_law_ratio" (defArgs s_l_ratio) (defBody s_l_ratio) (defScope s_l_ratio) .none kV_l_ratio dc_l_ratio pm_l_ratio an_l_ratio cd_l_ratio ct_l_ratio), sl_l_ratio⟩)
    (c_l_ratio : PySem.W.codeIn K cd_l_ratio "_law_ratio" = true)
    (k_l_ratio : PySem.W.keepIn K (.ref f_l_ratio) = true)
    (a_l_plus : PySem.W.nsIn K mainGlobals "_law_plus" = some (some (.ref f_l_plus)))
    (l_l_plus : K.lookup f_l_plus = some ⟨oc_l_plus, od_l_plus, .func (PySem.W.fnOf "_law_plus" "_law_plus" (defArgs s_l_plus) (defBody s_l_plus) (defScope s_l_plus) .none kV_l_plus dc_l_plus pm_l_plus an_l_plus cd_l_plus ct_l_plus), sl_l_plus⟩)
    (c_l_plus : PySem.W.codeIn K cd_l_plus "_law_plus" = true)
    (k_l_plus : PySem.W.keepIn K (.ref f_l_plus) = true)
    (a_l_times : PySem.W.nsIn K mainGlobals "_law_times" = some (some (.ref f_l_times)))
    (l_l_times : K.lookup f_l_times = some ⟨oc_l_times, od_l_times, .func (PySem.W.fnOf "_law_times" "_law_times" (defArgs s_l_times) (defBody s_l_times) (defScope s_l_times) .none kV_l_times dc_l_times pm_l_times an_l_times cd_l_times ct_l_times), sl_l_times⟩)
    (c_l_times : PySem.W.codeIn K cd_l_times "_law_times" = true)
    (k_l_times : PySem.W.keepIn K (.ref f_l_times) = true)
    (a_l_number : PySem.W.nsIn K mainGlobals "_law_number" = some (some (.ref f_l_number)))
    (l_l_number : K.lookup f_l_number = some ⟨oc_l_number, od_l_number, .func (PySem.W.fnOf "_law_number" "_law_number" (defArgs s_l_number) (defBody s_l_number) (defScope s_l_number) .none kV_l_number dc_l_number pm_l_number an_l_number cd_l_number ct_l_number), sl_l_number⟩)
    (c_l_number : PySem.W.codeIn K cd_l_number "_law_number" = true)
    (k_l_number : PySem.W.keepIn K (.ref f_l_number) = true)
    (a_l_given : PySem.W.nsIn K mainGlobals "_law_given" = some (some (.ref f_l_given)))
    (l_l_given : K.lookup f_l_given = some ⟨oc_l_given, od_l_given, .func (PySem.W.fnOf "_law_given" "_law_given" (defArgs s_l_given) (defBody s_l_given) (defScope s_l_given) .none kV_l_given dc_l_given pm_l_given an_l_given cd_l_given ct_l_given), sl_l_given⟩)
    (c_l_given : PySem.W.codeIn K cd_l_given "_law_given" = true)
    (k_l_given : PySem.W.keepIn K (.ref f_l_given) = true)
    (a_l_form : PySem.W.nsIn K mainGlobals "_law_form" = some (some (.ref f_l_form)))
    (l_l_form : K.lookup f_l_form = some ⟨oc_l_form, od_l_form, .func (PySem.W.fnOf "_law_form" "_law_form" (defArgs s_l_form) (defBody s_l_form) (defScope s_l_form) .none kV_l_form dc_l_form pm_l_form an_l_form cd_l_form ct_l_form), sl_l_form⟩)
    (c_l_form : PySem.W.codeIn K cd_l_form "_law_form" = true)
    (k_l_form : PySem.W.keepIn K (.ref f_l_form) = true)
    (a_l_joint : PySem.W.nsIn K mainGlobals "_law_joint" = some (some (.ref f_l_joint)))
    (l_l_joint : K.lookup f_l_joint = some ⟨oc_l_joint, od_l_joint, .func (PySem.W.fnOf "_law_joint" "_law_joint" (defArgs s_l_joint) (defBody s_l_joint) (defScope s_l_joint) .none kV_l_joint dc_l_joint pm_l_joint an_l_joint cd_l_joint ct_l_joint), sl_l_joint⟩)
    (c_l_joint : PySem.W.codeIn K cd_l_joint "_law_joint" = true)
    (k_l_joint : PySem.W.keepIn K (.ref f_l_joint) = true)
    (a_l_scaled : PySem.W.nsIn K mainGlobals "_law_scaled" = some (some (.ref f_l_scaled)))
    (l_l_scaled : K.lookup f_l_scaled = some ⟨oc_l_scaled, od_l_scaled, .func (PySem.W.fnOf "_law_scaled" "_law_scaled" (defArgs s_l_scaled) (defBody s_l_scaled) (defScope s_l_scaled) .none kV_l_scaled dc_l_scaled pm_l_scaled an_l_scaled cd_l_scaled ct_l_scaled), sl_l_scaled⟩)
    (c_l_scaled : PySem.W.codeIn K cd_l_scaled "_law_scaled" = true)
    (k_l_scaled : PySem.W.keepIn K (.ref f_l_scaled) = true)
    (a_l_worth : PySem.W.nsIn K mainGlobals "_law_worth" = some (some (.ref f_l_worth)))
    (l_l_worth : K.lookup f_l_worth = some ⟨oc_l_worth, od_l_worth, .func (PySem.W.fnOf "_law_worth" "_law_worth" (defArgs s_l_worth) (defBody s_l_worth) (defScope s_l_worth) .none kV_l_worth dc_l_worth pm_l_worth an_l_worth cd_l_worth ct_l_worth), sl_l_worth⟩)
    (c_l_worth : PySem.W.codeIn K cd_l_worth "_law_worth" = true)
    (k_l_worth : PySem.W.keepIn K (.ref f_l_worth) = true)
    (a_l_drawn_form : PySem.W.nsIn K mainGlobals "_law_drawn_form" = some (some (.ref f_l_drawn_form)))
    (l_l_drawn_form : K.lookup f_l_drawn_form = some ⟨oc_l_drawn_form, od_l_drawn_form, .func (PySem.W.fnOf "_law_drawn_form" "_law_drawn_form" (defArgs s_l_drawn_form) (defBody s_l_drawn_form) (defScope s_l_drawn_form) .none kV_l_drawn_form dc_l_drawn_form pm_l_drawn_form an_l_drawn_form cd_l_drawn_form ct_l_drawn_form), sl_l_drawn_form⟩)
    (c_l_drawn_form : PySem.W.codeIn K cd_l_drawn_form "_law_drawn_form" = true)
    (k_l_drawn_form : PySem.W.keepIn K (.ref f_l_drawn_form) = true)
    (a_l_worth_told : PySem.W.nsIn K mainGlobals "_law_worth_told" = some (some (.ref f_l_worth_told)))
    (l_l_worth_told : K.lookup f_l_worth_told = some ⟨oc_l_worth_told, od_l_worth_told, .func (PySem.W.fnOf "_law_worth_told" "_law_worth_told" (defArgs s_l_worth_told) (defBody s_l_worth_told) (defScope s_l_worth_told) .none kV_l_worth_told dc_l_worth_told pm_l_worth_told an_l_worth_told cd_l_worth_told ct_l_worth_told), sl_l_worth_told⟩)
    (c_l_worth_told : PySem.W.codeIn K cd_l_worth_told "_law_worth_told" = true)
    (k_l_worth_told : PySem.W.keepIn K (.ref f_l_worth_told) = true)
    (a_l_lacking : PySem.W.nsIn K mainGlobals "_law_lacking" = some (some (.ref f_l_lacking)))
    (l_l_lacking : K.lookup f_l_lacking = some ⟨oc_l_lacking, od_l_lacking, .func (PySem.W.fnOf "_law_lacking" "_law_lacking" (defArgs s_l_lacking) (defBody s_l_lacking) (defScope s_l_lacking) .none kV_l_lacking dc_l_lacking pm_l_lacking an_l_lacking cd_l_lacking ct_l_lacking), sl_l_lacking⟩)
    (c_l_lacking : PySem.W.codeIn K cd_l_lacking "_law_lacking" = true)
    (k_l_lacking : PySem.W.keepIn K (.ref f_l_lacking) = true)
    (a_law : PySem.W.nsIn K mainGlobals "law" = some (some (.ref f_law)))
    (l_law : K.lookup f_law = some ⟨oc_law, od_law, .func (PySem.W.fnOf "law" "law" (defArgs s_law) (defBody s_law) (defScope s_law) .none kV_law dc_law pm_law an_law cd_law ct_law), sl_law⟩)
    (c_law : PySem.W.codeIn K cd_law "law" = true)
    (k_law : PySem.W.keepIn K (.ref f_law) = true)
    (a_ratio : PySem.W.nsIn K mainGlobals "ratio" = some (some (.ref f_ratio)))
    (l_ratio : K.lookup f_ratio = some ⟨oc_ratio, od_ratio, .func (PySem.W.fnOf "ratio" "ratio" (defArgs s_ratio) (defBody s_ratio) (defScope s_ratio) (.ref T_ratio) kV_ratio dc_ratio pm_ratio an_ratio cd_ratio ct_ratio), sl_ratio⟩)
    (c_ratio : PySem.W.codeIn K cd_ratio "ratio" = true)
    (k_ratio : PySem.W.keepIn K (.ref f_ratio) = true)
    (t_ratio : K.lookup T_ratio = some ⟨to_ratio, td_ratio, .seq #[.int 1 tt_ratio] tn_ratio, ts_ratio⟩)
    (aC_SheetError : PySem.W.nsIn K mainGlobals "SheetError" = some (some (.ref C_SheetError)))
    (aC_ZeroBottom : PySem.W.nsIn K mainGlobals "ZeroBottom" = some (some (.ref C_ZeroBottom)))
    (aC_InvalidNumber : PySem.W.nsIn K mainGlobals "InvalidNumber" = some (some (.ref C_InvalidNumber)))
    (aC_UnknownCell : PySem.W.nsIn K mainGlobals "UnknownCell" = some (some (.ref C_UnknownCell)))
    (special : PySem.W.specialIn K (.builtin "object.__class__") "__get__" = some (some (.builtin "getset_descriptor.__get__")))
    (takes : PySem.W.takesIn K (.builtin "object.__class__") = some true)
    (kS_ZeroBottom : PySem.W.kitOne K (.ref C_ZeroBottom) (.ref C_SheetError) = some true)
    (ga_ZeroBottom : PySem.W.findIn K (.ref C_ZeroBottom) "__getattribute__" = some (some (.builtin "BaseException.__getattribute__")))
    (gg_ZeroBottom : PySem.W.findIn K (.ref C_ZeroBottom) "__getattr__" = some none)
    (sb_ZeroBottom : PySem.W.subIn K (.ref C_ZeroBottom) (.type "BaseException") = some true)
    (hd_ZeroBottom : PySem.W.hasDictIn K C_ZeroBottom = true)
    (ha_ZeroBottom : PySem.W.findIn K (.ref C_ZeroBottom) "__class__" = some (some (.builtin "object.__class__")))
    (hm_ZeroBottom : PySem.W.mroIn K C_ZeroBottom (.type "object") = some true)
    (ty_ZeroBottom : PySem.W.typeIn K (.ref C_ZeroBottom) = some (.type "type"))
    (kp_ZeroBottom : PySem.W.keepIn K (.ref C_ZeroBottom) = true)
    (ex_ZeroBottom : PySem.W.exmOne K (.ref C_ZeroBottom) (.ref C_ZeroBottom) = some true)
    (xp_ZeroBottom : PySem.W.excIn K C_ZeroBottom [.type "ValueError", .type "Exception", .type "BaseException", .type "object"] "ValueError.__new__" = true)
    (kS_InvalidNumber : PySem.W.kitOne K (.ref C_InvalidNumber) (.ref C_SheetError) = some true)
    (ga_InvalidNumber : PySem.W.findIn K (.ref C_InvalidNumber) "__getattribute__" = some (some (.builtin "BaseException.__getattribute__")))
    (gg_InvalidNumber : PySem.W.findIn K (.ref C_InvalidNumber) "__getattr__" = some none)
    (sb_InvalidNumber : PySem.W.subIn K (.ref C_InvalidNumber) (.type "BaseException") = some true)
    (hd_InvalidNumber : PySem.W.hasDictIn K C_InvalidNumber = true)
    (ha_InvalidNumber : PySem.W.findIn K (.ref C_InvalidNumber) "__class__" = some (some (.builtin "object.__class__")))
    (hm_InvalidNumber : PySem.W.mroIn K C_InvalidNumber (.type "object") = some true)
    (ty_InvalidNumber : PySem.W.typeIn K (.ref C_InvalidNumber) = some (.type "type"))
    (kp_InvalidNumber : PySem.W.keepIn K (.ref C_InvalidNumber) = true)
    (ex_InvalidNumber : PySem.W.exmOne K (.ref C_InvalidNumber) (.ref C_InvalidNumber) = some true)
    (x_InvalidNumber : K.lookup C_InvalidNumber = some (excClassObj nm_InvalidNumber q_InvalidNumber C_InvalidNumber N_InvalidNumber bs_InvalidNumber [.ref C_SheetError, .type "ValueError", .type "Exception", .type "BaseException", .type "object"] true sn_InvalidNumber sub_InvalidNumber ab_InvalidNumber col_InvalidNumber dd_InvalidNumber m0_InvalidNumber m1_InvalidNumber m2_InvalidNumber m3_InvalidNumber m5_InvalidNumber "ValueError.__new__"))
    (sa_InvalidNumber : PySem.W.findIn K (.ref C_InvalidNumber) "__setattr__" = some (some (.builtin "object.__setattr__")))
    (no_InvalidNumber : PySem.W.findIn K (.ref C_InvalidNumber) "value" = some none)
    (i_InvalidNumber : PySem.W.findIn K (.ref C_InvalidNumber) "__init__" = some (some (.ref f_InvalidNumber_init)))
    (ti_InvalidNumber : PySem.W.typeIn K (.ref f_InvalidNumber_init) = some (.type "function"))
    (l_InvalidNumber_init : K.lookup f_InvalidNumber_init = some ⟨oc_InvalidNumber_init, od_InvalidNumber_init, .func (PySem.W.fnOf "__init__" "InvalidNumber.__init__" (defArgs s_InvalidNumber_init) (defBody s_InvalidNumber_init) (defScope s_InvalidNumber_init) .none kV_InvalidNumber_init dc_InvalidNumber_init pm_InvalidNumber_init an_InvalidNumber_init cd_InvalidNumber_init ct_InvalidNumber_init), sl_InvalidNumber_init⟩)
    (c_InvalidNumber_init : PySem.W.codeIn K cd_InvalidNumber_init "InvalidNumber.__init__" = true)
    (k_InvalidNumber_init : PySem.W.keepIn K (.ref f_InvalidNumber_init) = true)
    (kS_UnknownCell : PySem.W.kitOne K (.ref C_UnknownCell) (.ref C_SheetError) = some true)
    (ga_UnknownCell : PySem.W.findIn K (.ref C_UnknownCell) "__getattribute__" = some (some (.builtin "BaseException.__getattribute__")))
    (gg_UnknownCell : PySem.W.findIn K (.ref C_UnknownCell) "__getattr__" = some none)
    (sb_UnknownCell : PySem.W.subIn K (.ref C_UnknownCell) (.type "BaseException") = some true)
    (hd_UnknownCell : PySem.W.hasDictIn K C_UnknownCell = true)
    (ha_UnknownCell : PySem.W.findIn K (.ref C_UnknownCell) "__class__" = some (some (.builtin "object.__class__")))
    (hm_UnknownCell : PySem.W.mroIn K C_UnknownCell (.type "object") = some true)
    (ty_UnknownCell : PySem.W.typeIn K (.ref C_UnknownCell) = some (.type "type"))
    (kp_UnknownCell : PySem.W.keepIn K (.ref C_UnknownCell) = true)
    (ex_UnknownCell : PySem.W.exmOne K (.ref C_UnknownCell) (.ref C_UnknownCell) = some true)
    (x_UnknownCell : K.lookup C_UnknownCell = some (excClassObj nm_UnknownCell q_UnknownCell C_UnknownCell N_UnknownCell bs_UnknownCell [.ref C_SheetError, .type "ValueError", .type "Exception", .type "BaseException", .type "object"] true sn_UnknownCell sub_UnknownCell ab_UnknownCell col_UnknownCell dd_UnknownCell m0_UnknownCell m1_UnknownCell m2_UnknownCell m3_UnknownCell m5_UnknownCell "ValueError.__new__"))
    (sa_UnknownCell : PySem.W.findIn K (.ref C_UnknownCell) "__setattr__" = some (some (.builtin "object.__setattr__")))
    (no_UnknownCell : PySem.W.findIn K (.ref C_UnknownCell) "name" = some none)
    (i_UnknownCell : PySem.W.findIn K (.ref C_UnknownCell) "__init__" = some (some (.ref f_UnknownCell_init)))
    (ti_UnknownCell : PySem.W.typeIn K (.ref f_UnknownCell_init) = some (.type "function"))
    (l_UnknownCell_init : K.lookup f_UnknownCell_init = some ⟨oc_UnknownCell_init, od_UnknownCell_init, .func (PySem.W.fnOf "__init__" "UnknownCell.__init__" (defArgs s_UnknownCell_init) (defBody s_UnknownCell_init) (defScope s_UnknownCell_init) .none kV_UnknownCell_init dc_UnknownCell_init pm_UnknownCell_init an_UnknownCell_init cd_UnknownCell_init ct_UnknownCell_init), sl_UnknownCell_init⟩)
    (c_UnknownCell_init : PySem.W.codeIn K cd_UnknownCell_init "UnknownCell.__init__" = true)
    (k_UnknownCell_init : PySem.W.keepIn K (.ref f_UnknownCell_init) = true)
    (v_NAME_LETTERS : PySem.W.nsIn K mainGlobals "NAME_LETTERS" = some (some (.int 8 tk_NAME_LETTERS)))
    (aZ_FUNCTION_WORDS : PySem.W.nsIn K mainGlobals "FUNCTION_WORDS" = some (some (.ref Z_FUNCTION_WORDS)))
    (lZ_FUNCTION_WORDS : K.lookup Z_FUNCTION_WORDS = some ⟨.type "tuple", dz_FUNCTION_WORDS, .seq #[.str "sum" tz0_FUNCTION_WORDS, .str "average" tz1_FUNCTION_WORDS] nz_FUNCTION_WORDS, sz_FUNCTION_WORDS⟩)
    (aZ_ZERO : PySem.W.nsIn K mainGlobals "ZERO" = some (some (.ref Z_ZERO)))
    (lZ_ZERO : K.lookup Z_ZERO = some ⟨.type "tuple", dz_ZERO, .seq #[.int 0 tz0_ZERO, .int 1 tz1_ZERO] nz_ZERO, sz_ZERO⟩)
    (n_len : PySem.W.nsIn K mainGlobals "len" = some none)
    (n_max : PySem.W.nsIn K mainGlobals "max" = some none)
    (n_abs : PySem.W.nsIn K mainGlobals "abs" = some none)
    (n_any : PySem.W.nsIn K mainGlobals "any" = some none)
    (n_all : PySem.W.nsIn K mainGlobals "all" = some none)
    (n_isinstance : PySem.W.nsIn K mainGlobals "isinstance" = some none)
    (n_range : PySem.W.nsIn K mainGlobals "range" = some none)
    (n_zip : PySem.W.nsIn K mainGlobals "zip" = some none)
    (n_int : PySem.W.nsIn K mainGlobals "int" = some none)
    (n_bool : PySem.W.nsIn K mainGlobals "bool" = some none)
    (n_tuple : PySem.W.nsIn K mainGlobals "tuple" = some none)
    (n_list : PySem.W.nsIn K mainGlobals "list" = some none)
    (n_str : PySem.W.nsIn K mainGlobals "str" = some none)
    (n_set : PySem.W.nsIn K mainGlobals "set" = some none)
    (n_sorted : PySem.W.nsIn K mainGlobals "sorted" = some none)
    (n_dict : PySem.W.nsIn K mainGlobals "dict" = some none)
    (g_gcd : PySem.W.nsIn K mainGlobals "gcd" = some (some (.builtin "math.gcd"))) :
    ∃ fd : FuncData, (∀ (s : Shared) (v : Value), BindsTo s fd ⟨[v], []⟩ [("_law_script", v)]) ∧ ∀ base : Heap, K.In base → base.Ns mainGlobals mg → FnG l.prog w K mg base CX0 10 fa fd ["_law_script"] (spLaw K) := by
  have e := hfa.symm.trans (PySem.W.mg_of X G a_law)
  cases e
  have T : Bt mg := ⟨PySem.W.mg_none_of X G n_len, PySem.W.mg_none_of X G n_max, PySem.W.mg_none_of X G n_abs, PySem.W.mg_none_of X G n_any, PySem.W.mg_none_of X G n_all, PySem.W.mg_none_of X G n_isinstance, PySem.W.mg_none_of X G n_range, PySem.W.mg_none_of X G n_zip, PySem.W.mg_none_of X G n_int, PySem.W.mg_none_of X G n_bool, PySem.W.mg_none_of X G n_tuple, PySem.W.mg_none_of X G n_list⟩
  have w_NAME_LETTERS : ∃ t, mg "NAME_LETTERS" = some (.int 8 t) := ⟨_, PySem.W.mg_of X G v_NAME_LETTERS⟩
  have w_FUNCTION_WORDS : ∃ a, mg "FUNCTION_WORDS" = some (.ref a) ∧ ∀ H, SqT K H a [V.str "sum", V.str "average"] := ⟨_, PySem.W.mg_of X G aZ_FUNCTION_WORDS, fun H => .inr ⟨_, _, _, lZ_FUNCTION_WORDS, rfl, rfl, (by show 2 ≤ sizeLine; decide), (.cons ⟨_, rfl⟩ (.cons ⟨_, rfl⟩ .nil))⟩⟩
  have w_ZERO : ∃ a, mg "ZERO" = some (.ref a) ∧ ∀ H, SqT K H a [V.int 0, V.int 1] := ⟨_, PySem.W.mg_of X G aZ_ZERO, fun H => .inr ⟨_, _, _, lZ_ZERO, rfl, rfl, (by show 2 ≤ sizeLine; decide), (.cons ⟨_, rfl⟩ (.cons ⟨_, rfl⟩ .nil))⟩⟩
  have ux : True := trivial
  have Tg : Gt mg := ⟨PySem.W.mg_of X G g_gcd⟩
  have F_is_whole := fun_mk (st := s_is_whole) l_is_whole c_is_whole k_is_whole
  have D_is_whole : Df K mg "is_whole" s_is_whole ["value"] := ⟨_, _, F_is_whole, PySem.W.mg_of X G a_is_whole, F_is_whole.binds fun _ _ _ _ _ _ us hl => match us, hl with | [_], _ => rfl⟩
  have F_is_ratio := fun_mk (st := s_is_ratio) l_is_ratio c_is_ratio k_is_ratio
  have D_is_ratio : Df K mg "is_ratio" s_is_ratio ["value"] := ⟨_, _, F_is_ratio, PySem.W.mg_of X G a_is_ratio, F_is_ratio.binds fun _ _ _ _ _ _ us hl => match us, hl with | [_], _ => rfl⟩
  have F_as_ratio := fun_mk (st := s_as_ratio) l_as_ratio c_as_ratio k_as_ratio
  have D_as_ratio : Df K mg "as_ratio" s_as_ratio ["value"] := ⟨_, _, F_as_ratio, PySem.W.mg_of X G a_as_ratio, F_as_ratio.binds fun _ _ _ _ _ _ us hl => match us, hl with | [_], _ => rfl⟩
  have F_add_ratios := fun_mk (st := s_add_ratios) l_add_ratios c_add_ratios k_add_ratios
  have D_add_ratios : Df K mg "add_ratios" s_add_ratios ["one", "other"] := ⟨_, _, F_add_ratios, PySem.W.mg_of X G a_add_ratios, F_add_ratios.binds fun _ _ _ _ _ _ us hl => match us, hl with | [_, _], _ => rfl⟩
  have F_multiply_ratios := fun_mk (st := s_multiply_ratios) l_multiply_ratios c_multiply_ratios k_multiply_ratios
  have D_multiply_ratios : Df K mg "multiply_ratios" s_multiply_ratios ["one", "other"] := ⟨_, _, F_multiply_ratios, PySem.W.mg_of X G a_multiply_ratios, F_multiply_ratios.binds fun _ _ _ _ _ _ us hl => match us, hl with | [_, _], _ => rfl⟩
  have F_is_name := fun_mk (st := s_is_name) l_is_name c_is_name k_is_name
  have D_is_name : Df K mg "is_name" s_is_name ["value"] := ⟨_, _, F_is_name, PySem.W.mg_of X G a_is_name, F_is_name.binds fun _ _ _ _ _ _ us hl => match us, hl with | [_], _ => rfl⟩
  have F_is_form := fun_mk (st := s_is_form) l_is_form c_is_form k_is_form
  have D_is_form : Df K mg "is_form" s_is_form ["value"] := ⟨_, _, F_is_form, PySem.W.mg_of X G a_is_form, F_is_form.binds fun _ _ _ _ _ _ us hl => match us, hl with | [_], _ => rfl⟩
  have F_is_term := fun_mk (st := s_is_term) l_is_term c_is_term k_is_term
  have D_is_term : Df K mg "is_term" s_is_term ["value"] := ⟨_, _, F_is_term, PySem.W.mg_of X G a_is_term, F_is_term.binds fun _ _ _ _ _ _ us hl => match us, hl with | [_], _ => rfl⟩
  have F_constant_form := fun_mk (st := s_constant_form) l_constant_form c_constant_form k_constant_form
  have D_constant_form : Df K mg "constant_form" s_constant_form ["number"] := ⟨_, _, F_constant_form, PySem.W.mg_of X G a_constant_form, F_constant_form.binds fun _ _ _ _ _ _ us hl => match us, hl with | [_], _ => rfl⟩
  have F_factor_in := fun_mk (st := s_factor_in) l_factor_in c_factor_in k_factor_in
  have D_factor_in : Df K mg "factor_in" s_factor_in ["form", "name"] := ⟨_, _, F_factor_in, PySem.W.mg_of X G a_factor_in, F_factor_in.binds fun _ _ _ _ _ _ us hl => match us, hl with | [_, _], _ => rfl⟩
  have F_add_forms := fun_mk (st := s_add_forms) l_add_forms c_add_forms k_add_forms
  have D_add_forms : Df K mg "add_forms" s_add_forms ["one", "other"] := ⟨_, _, F_add_forms, PySem.W.mg_of X G a_add_forms, F_add_forms.binds fun _ _ _ _ _ _ us hl => match us, hl with | [_, _], _ => rfl⟩
  have F_scale_form := fun_mk (st := s_scale_form) l_scale_form c_scale_form k_scale_form
  have D_scale_form : Df K mg "scale_form" s_scale_form ["number", "form"] := ⟨_, _, F_scale_form, PySem.W.mg_of X G a_scale_form, F_scale_form.binds fun _ _ _ _ _ _ us hl => match us, hl with | [_, _], _ => rfl⟩
  have F_substituted := fun_mk (st := s_substituted) l_substituted c_substituted k_substituted
  have D_substituted : Df K mg "substituted" s_substituted ["form", "name", "other"] := ⟨_, _, F_substituted, PySem.W.mg_of X G a_substituted, F_substituted.binds fun _ _ _ _ _ _ us hl => match us, hl with | [_, _, _], _ => rfl⟩
  have F_value_at := fun_mk (st := s_value_at) l_value_at c_value_at k_value_at
  have D_value_at : Df K mg "value_at" s_value_at ["form", "values"] := ⟨_, _, F_value_at, PySem.W.mg_of X G a_value_at, F_value_at.binds fun _ _ _ _ _ _ us hl => match us, hl with | [_, _], _ => rfl⟩
  have F_l_box := fun_mk (st := s_l_box) l_l_box c_l_box k_l_box
  have D_l_box : Df K mg "_law_box" s_l_box ["_law_script"] := ⟨_, _, F_l_box, PySem.W.mg_of X G a_l_box, F_l_box.binds fun _ _ _ _ _ _ us hl => match us, hl with | [_], _ => rfl⟩
  have F_l_mixed := fun_mk (st := s_l_mixed) l_l_mixed c_l_mixed k_l_mixed
  have D_l_mixed : Df K mg "_law_mixed" s_l_mixed ["_law_cell", "_law_k"] := ⟨_, _, F_l_mixed, PySem.W.mg_of X G a_l_mixed, F_l_mixed.binds fun _ _ _ _ _ _ us hl => match us, hl with | [_, _], _ => rfl⟩
  have F_l_take := fun_mk (st := s_l_take) l_l_take c_l_take k_l_take
  have D_l_take : Df K mg "_law_take" s_l_take ["_law_box_here", "_law_size"] := ⟨_, _, F_l_take, PySem.W.mg_of X G a_l_take, F_l_take.binds fun _ _ _ _ _ _ us hl => match us, hl with | [_, _], _ => rfl⟩
  have F_l_shuffled := fun_mk (st := s_l_shuffled) l_l_shuffled c_l_shuffled k_l_shuffled
  have D_l_shuffled : Df K mg "_law_shuffled" s_l_shuffled ["_law_box_here", "_law_things"] := ⟨_, _, F_l_shuffled, PySem.W.mg_of X G a_l_shuffled, F_l_shuffled.binds fun _ _ _ _ _ _ us hl => match us, hl with | [_, _], _ => rfl⟩
  have F_l_names := fun_mk (st := s_l_names) l_l_names c_l_names k_l_names
  have D_l_names : Df K mg "_law_names" s_l_names ["_law_box_here", "_law_many"] := ⟨_, _, F_l_names, PySem.W.mg_of X G a_l_names, F_l_names.binds fun _ _ _ _ _ _ us hl => match us, hl with | [_, _], _ => rfl⟩
  have F_l_shared := fun_mk (st := s_l_shared) l_l_shared c_l_shared k_l_shared
  have D_l_shared : Df K mg "_law_shared" s_l_shared ["_law_one", "_law_other"] := ⟨_, _, F_l_shared, PySem.W.mg_of X G a_l_shared, F_l_shared.binds fun _ _ _ _ _ _ us hl => match us, hl with | [_, _], _ => rfl⟩
  have F_l_ratio := fun_mk (st := s_l_ratio) l_l_ratio c_l_ratio k_l_ratio
  have D_l_ratio : Df K mg "_law_ratio" s_l_ratio ["_law_top", "_law_bottom"] := ⟨_, _, F_l_ratio, PySem.W.mg_of X G a_l_ratio, F_l_ratio.binds fun _ _ _ _ _ _ us hl => match us, hl with | [_, _], _ => rfl⟩
  have F_l_plus := fun_mk (st := s_l_plus) l_l_plus c_l_plus k_l_plus
  have D_l_plus : Df K mg "_law_plus" s_l_plus ["_law_one", "_law_other"] := ⟨_, _, F_l_plus, PySem.W.mg_of X G a_l_plus, F_l_plus.binds fun _ _ _ _ _ _ us hl => match us, hl with | [_, _], _ => rfl⟩
  have F_l_times := fun_mk (st := s_l_times) l_l_times c_l_times k_l_times
  have D_l_times : Df K mg "_law_times" s_l_times ["_law_one", "_law_other"] := ⟨_, _, F_l_times, PySem.W.mg_of X G a_l_times, F_l_times.binds fun _ _ _ _ _ _ us hl => match us, hl with | [_, _], _ => rfl⟩
  have F_l_number := fun_mk (st := s_l_number) l_l_number c_l_number k_l_number
  have D_l_number : Df K mg "_law_number" s_l_number ["_law_box_here"] := ⟨_, _, F_l_number, PySem.W.mg_of X G a_l_number, F_l_number.binds fun _ _ _ _ _ _ us hl => match us, hl with | [_], _ => rfl⟩
  have F_l_given := fun_mk (st := s_l_given) l_l_given c_l_given k_l_given
  have D_l_given : Df K mg "_law_given" s_l_given ["_law_box_here", "_law_number_here"] := ⟨_, _, F_l_given, PySem.W.mg_of X G a_l_given, F_l_given.binds fun _ _ _ _ _ _ us hl => match us, hl with | [_, _], _ => rfl⟩
  have F_l_form := fun_mk (st := s_l_form) l_l_form c_l_form k_l_form
  have D_l_form : Df K mg "_law_form" s_l_form ["_law_terms", "_law_constant"] := ⟨_, _, F_l_form, PySem.W.mg_of X G a_l_form, F_l_form.binds fun _ _ _ _ _ _ us hl => match us, hl with | [_, _], _ => rfl⟩
  have F_l_joint := fun_mk (st := s_l_joint) l_l_joint c_l_joint k_l_joint
  have D_l_joint : Df K mg "_law_joint" s_l_joint ["_law_one", "_law_other"] := ⟨_, _, F_l_joint, PySem.W.mg_of X G a_l_joint, F_l_joint.binds fun _ _ _ _ _ _ us hl => match us, hl with | [_, _], _ => rfl⟩
  have F_l_scaled := fun_mk (st := s_l_scaled) l_l_scaled c_l_scaled k_l_scaled
  have D_l_scaled : Df K mg "_law_scaled" s_l_scaled ["_law_by", "_law_form_here"] := ⟨_, _, F_l_scaled, PySem.W.mg_of X G a_l_scaled, F_l_scaled.binds fun _ _ _ _ _ _ us hl => match us, hl with | [_, _], _ => rfl⟩
  have F_l_worth := fun_mk (st := s_l_worth) l_l_worth c_l_worth k_l_worth
  have D_l_worth : Df K mg "_law_worth" s_l_worth ["_law_form_here", "_law_values"] := ⟨_, _, F_l_worth, PySem.W.mg_of X G a_l_worth, F_l_worth.binds fun _ _ _ _ _ _ us hl => match us, hl with | [_, _], _ => rfl⟩
  have F_l_drawn_form := fun_mk (st := s_l_drawn_form) l_l_drawn_form c_l_drawn_form k_l_drawn_form
  have D_l_drawn_form : Df K mg "_law_drawn_form" s_l_drawn_form ["_law_box_here", "_law_names_here"] := ⟨_, _, F_l_drawn_form, PySem.W.mg_of X G a_l_drawn_form, F_l_drawn_form.binds fun _ _ _ _ _ _ us hl => match us, hl with | [_, _], _ => rfl⟩
  have F_l_worth_told := fun_mk (st := s_l_worth_told) l_l_worth_told c_l_worth_told k_l_worth_told
  have D_l_worth_told : Df K mg "_law_worth_told" s_l_worth_told ["_law_form_here", "_law_values"] := ⟨_, _, F_l_worth_told, PySem.W.mg_of X G a_l_worth_told, F_l_worth_told.binds fun _ _ _ _ _ _ us hl => match us, hl with | [_, _], _ => rfl⟩
  have F_l_lacking := fun_mk (st := s_l_lacking) l_l_lacking c_l_lacking k_l_lacking
  have D_l_lacking : Df K mg "_law_lacking" s_l_lacking ["_law_box_here", "_law_form_here", "_law_values"] := ⟨_, _, F_l_lacking, PySem.W.mg_of X G a_l_lacking, F_l_lacking.binds fun _ _ _ _ _ _ us hl => match us, hl with | [_, _, _], _ => rfl⟩
  have F_law := fun_mk (st := s_law) l_law c_law k_law
  have D_law : Df K mg "law" s_law ["_law_script"] := ⟨_, _, F_law, PySem.W.mg_of X G a_law, F_law.binds fun _ _ _ _ _ _ us hl => match us, hl with | [_], _ => rfl⟩
  have F_ratio : FunD K "ratio" "ratio" (defArgs s_ratio) (defBody s_ratio) (defScope s_ratio) [.int 1] [] f_ratio _ := ⟨⟨_, _, _, _, _, _, _, _, _, _, rfl, l_ratio, c_ratio, .inr ⟨List.cons_ne_nil _ _, T_ratio, _, [.int 1 tt_ratio], _, rfl, t_ratio, rfl, .cons ⟨_, rfl⟩ .nil⟩, .inl rfl⟩, k_ratio⟩
  have D_ratio : Df1 K mg "ratio" s_ratio ["top", "bottom"] := by
    obtain ⟨ds0, v0, b0⟩ := F_ratio.binds1 (ps := ["top", "bottom"]) 2 1 (List.cons_ne_nil _ _) rfl fun _ _ _ _ _ _ _ us its hl hi => match us, its, hl, hi with | [_, _], [_], _, _ => ⟨_, rfl, rfl⟩
    obtain ⟨ds1, v1, b1⟩ := F_ratio.binds1 (ps := ["top", "bottom"]) 1 0 (List.cons_ne_nil _ _) rfl fun _ _ _ _ _ _ _ us its hl hi => match us, its, hl, hi with | [_], [_], _, _ => ⟨_, rfl, rfl⟩
    cases v0
    exact ⟨_, _, F_ratio, PySem.W.mg_of X G a_ratio, b0, ds1, v1, b1⟩
  have ec_ZeroBottom : ExcC K C_ZeroBottom := ⟨ga_ZeroBottom, gg_ZeroBottom, sb_ZeroBottom, hd_ZeroBottom, ha_ZeroBottom, special, takes, hm_ZeroBottom⟩
  have Z_ZeroBottom : ErrZ K mg "ZeroBottom" C_ZeroBottom := ⟨PySem.W.mg_of X G aC_ZeroBottom, xp_ZeroBottom, kp_ZeroBottom, sb_ZeroBottom, ty_ZeroBottom, ec_ZeroBottom, ex_ZeroBottom⟩
  have ec_InvalidNumber : ExcC K C_InvalidNumber := ⟨ga_InvalidNumber, gg_InvalidNumber, sb_InvalidNumber, hd_InvalidNumber, ha_InvalidNumber, special, takes, hm_InvalidNumber⟩
  have ox_InvalidNumber : OexC K C_InvalidNumber := ⟨⟨nm_InvalidNumber, q_InvalidNumber, N_InvalidNumber, bs_InvalidNumber, _, sn_InvalidNumber, sub_InvalidNumber, ab_InvalidNumber, col_InvalidNumber, dd_InvalidNumber, m0_InvalidNumber, m1_InvalidNumber, m2_InvalidNumber, m3_InvalidNumber, m5_InvalidNumber, x_InvalidNumber, by show PySem.HandSPX.refsVE _ = true; rfl⟩, sa_InvalidNumber, sb_InvalidNumber, ty_InvalidNumber, kp_InvalidNumber⟩
  have Fi_InvalidNumber := fun_mk (st := s_InvalidNumber_init) l_InvalidNumber_init c_InvalidNumber_init k_InvalidNumber_init
  have ec_UnknownCell : ExcC K C_UnknownCell := ⟨ga_UnknownCell, gg_UnknownCell, sb_UnknownCell, hd_UnknownCell, ha_UnknownCell, special, takes, hm_UnknownCell⟩
  have ox_UnknownCell : OexC K C_UnknownCell := ⟨⟨nm_UnknownCell, q_UnknownCell, N_UnknownCell, bs_UnknownCell, _, sn_UnknownCell, sub_UnknownCell, ab_UnknownCell, col_UnknownCell, dd_UnknownCell, m0_UnknownCell, m1_UnknownCell, m2_UnknownCell, m3_UnknownCell, m5_UnknownCell, x_UnknownCell, by show PySem.HandSPX.refsVE _ = true; rfl⟩, sa_UnknownCell, sb_UnknownCell, ty_UnknownCell, kp_UnknownCell⟩
  have Fi_UnknownCell := fun_mk (st := s_UnknownCell_init) l_UnknownCell_init c_UnknownCell_init k_UnknownCell_init
  refine ⟨PySem.W.fnOf "law" "law" (defArgs s_law) (defBody s_law) (defScope s_law) .none kV_law dc_law pm_law an_law cd_law ct_law, fun s v => .of_eq rfl, fun base _ _ => ?_⟩
  have Tt : Ut4 K mg := ⟨PySem.W.mg_none_of X G n_str, PySem.W.mg_none_of X G n_set, PySem.W.mg_none_of X G n_sorted, w_FUNCTION_WORDS, w_ZERO, w_NAME_LETTERS⟩
  have Td := PySem.W.mg_none_of X G n_dict
  have K_mixed := ok_mixed (P := l.prog) (w := w) (base := base) D_l_mixed
  have K_shared := ok_shared (P := l.prog) (w := w) (base := base) T D_l_shared
  have K_take := ok_take T K_mixed D_l_take
  have K_box := ok_box (P := l.prog) (w := w) (base := base) D_l_box
  have K_lratio := ok_lratio K_shared D_l_ratio
  have K_num := ok_number40 K_take K_lratio D_l_number
  have K_given := ok_givenD K_take D_l_given
  have K_whole := ok_is_whole (P := l.prog) (w := w) (base := base) T D_is_whole
  have K_isr := ok_is_ratio T Tg K_whole D_is_ratio
  have E_inv : ErrF l.prog w K mg base "InvalidNumber" "value" C_InvalidNumber := ⟨PySem.W.mg_of X G aC_InvalidNumber, ox_InvalidNumber, ⟨ga_InvalidNumber, gg_InvalidNumber, sb_InvalidNumber, hd_InvalidNumber⟩, no_InvalidNumber, ec_InvalidNumber, ex_InvalidNumber,
    ⟨_, _, i_InvalidNumber, ti_InvalidNumber, ok_errinit Fi_InvalidNumber ox_InvalidNumber no_InvalidNumber, Fi_InvalidNumber.binds fun _ _ _ _ _ _ us hl => match us, hl with | [_, _], _ => rfl⟩⟩
  have E_unk : ErrF l.prog w K mg base "UnknownCell" "name" C_UnknownCell := ⟨PySem.W.mg_of X G aC_UnknownCell, ox_UnknownCell, ⟨ga_UnknownCell, gg_UnknownCell, sb_UnknownCell, hd_UnknownCell⟩, no_UnknownCell, ec_UnknownCell, ex_UnknownCell,
    ⟨_, _, i_UnknownCell, ti_UnknownCell, ok_errinitN Fi_UnknownCell ox_UnknownCell no_UnknownCell, Fi_UnknownCell.binds fun _ _ _ _ _ _ us hl => match us, hl with | [_, _], _ => rfl⟩⟩
  have K_as := ok_as_ratio T E_inv K_whole K_isr D_as_ratio
  have K_ratio := ok_ratio (P := l.prog) (w := w) (base := base) T Tg Z_ZeroBottom D_ratio
  have K_addr := ok_add_ratios K_ratio D_add_ratios
  have K_mulr := ok_multiply_ratios K_ratio D_multiply_ratios
  have K_isname := ok_is_name (P := l.prog) (w := w) (base := base) T Tt D_is_name
  have K_isterm := ok_is_term T Tt K_isname K_isr D_is_term
  have K_isform := ok_is_form T Tt K_isterm K_isr D_is_form
  have K_const := ok_constant_form K_as D_constant_form
  have K_add := ok_add_forms T Tt Td K_addr D_add_forms
  have K_scale := ok_scale_form T Tt K_as K_const K_mulr D_scale_form
  have K_factor := ok_factor_in (P := l.prog) (w := w) (base := base) T Tt Td D_factor_in
  have K_subst := ok_substituted T K_add K_scale K_factor D_substituted
  have K_valat := ok_value_at T Td E_unk K_addr K_mulr K_as D_value_at
  have K_lnames := ok_names T K_take D_l_names
  have K_shufV := ok_shuffledV T K_take D_l_shuffled
  have K_shuf := ok_shuffled T K_take D_l_shuffled
  have K_lform := ok_lform (P := l.prog) (w := w) (base := base) T Tt D_l_form
  have K_drawn := ok_drawn (by decide) T K_take K_shuf K_num K_lform D_l_drawn_form
  have K_plus := ok_plus K_lratio D_l_plus
  have K_times := ok_times K_lratio D_l_times
  have K_worth := ok_worth K_plus K_times D_l_worth
  have K_joint := ok_joint Td K_plus K_lform D_l_joint
  have K_scaled := ok_scaled T Td K_times K_lform D_l_scaled
  have K_told := ok_worth_told T E_unk (PySem.W.mg_of X G aC_SheetError) kS_UnknownCell K_valat D_l_worth_told
  have K_lack := ok_lacking T Tt K_take K_given K_shufV K_worth K_told D_l_lacking
  exact ok_law T Td K_box K_lnames K_drawn K_isform K_take K_num K_given K_add K_scale K_subst K_joint K_scaled K_worth K_plus K_times K_lack F_law

end Bs
open PySem PySem.W PyProof.Rows
set_option maxRecDepth 100000 in
set_option maxHeartbeats 0 in
theorem PySem.Challenge.cw_backsheet_k05_whole_forms_add_up_holds : PySem.Challenge.rw_backsheet_k05_whole_forms_add_up.Holds := by
  w_on; o_law; k_head; (case hw => w_witness2)
  k_fill
  refine Bs.walkG (l := PySem.Challenge.rw_backsheet_k05_whole_forms_add_up) rfl rfl (fun w h Y => PySem.W.kIn_of Y) ?F
  case F =>
    intro w mg fa h KX G hmg
    refine' Bs.all_mk KX G hmg ?a_is_whole ?l_is_whole ?c_is_whole ?k_is_whole ?a_is_ratio ?l_is_ratio ?c_is_ratio ?k_is_ratio ?a_as_ratio ?l_as_ratio ?c_as_ratio ?k_as_ratio ?a_add_ratios ?l_add_ratios ?c_add_ratios ?k_add_ratios ?a_multiply_ratios ?l_multiply_ratios ?c_multiply_ratios ?k_multiply_ratios ?a_is_name ?l_is_name ?c_is_name ?k_is_name ?a_is_form ?l_is_form ?c_is_form ?k_is_form ?a_is_term ?l_is_term ?c_is_term ?k_is_term ?a_constant_form ?l_constant_form ?c_constant_form ?k_constant_form ?a_factor_in ?l_factor_in ?c_factor_in ?k_factor_in ?a_add_forms ?l_add_forms ?c_add_forms ?k_add_forms ?a_scale_form ?l_scale_form ?c_scale_form ?k_scale_form ?a_substituted ?l_substituted ?c_substituted ?k_substituted ?a_value_at ?l_value_at ?c_value_at ?k_value_at ?a_l_box ?l_l_box ?c_l_box ?k_l_box ?a_l_mixed ?l_l_mixed ?c_l_mixed ?k_l_mixed ?a_l_take ?l_l_take ?c_l_take ?k_l_take ?a_l_shuffled ?l_l_shuffled ?c_l_shuffled ?k_l_shuffled ?a_l_names ?l_l_names ?c_l_names ?k_l_names ?a_l_shared ?l_l_shared ?c_l_shared ?k_l_shared ?a_l_ratio ?l_l_ratio ?c_l_ratio ?k_l_ratio ?a_l_plus ?l_l_plus ?c_l_plus ?k_l_plus ?a_l_times ?l_l_times ?c_l_times ?k_l_times ?a_l_number ?l_l_number ?c_l_number ?k_l_number ?a_l_given ?l_l_given ?c_l_given ?k_l_given ?a_l_form ?l_l_form ?c_l_form ?k_l_form ?a_l_joint ?l_l_joint ?c_l_joint ?k_l_joint ?a_l_scaled ?l_l_scaled ?c_l_scaled ?k_l_scaled ?a_l_worth ?l_l_worth ?c_l_worth ?k_l_worth ?a_l_drawn_form ?l_l_drawn_form ?c_l_drawn_form ?k_l_drawn_form ?a_l_worth_told ?l_l_worth_told ?c_l_worth_told ?k_l_worth_told ?a_l_lacking ?l_l_lacking ?c_l_lacking ?k_l_lacking ?a_law ?l_law ?c_law ?k_law ?a_ratio ?l_ratio ?c_ratio ?k_ratio ?t_ratio ?aC_SheetError ?aC_ZeroBottom ?aC_InvalidNumber ?aC_UnknownCell ?special ?takes ?kS_ZeroBottom ?ga_ZeroBottom ?gg_ZeroBottom ?sb_ZeroBottom ?hd_ZeroBottom ?ha_ZeroBottom ?hm_ZeroBottom ?ty_ZeroBottom ?kp_ZeroBottom ?ex_ZeroBottom ?xp_ZeroBottom ?kS_InvalidNumber ?ga_InvalidNumber ?gg_InvalidNumber ?sb_InvalidNumber ?hd_InvalidNumber ?ha_InvalidNumber ?hm_InvalidNumber ?ty_InvalidNumber ?kp_InvalidNumber ?ex_InvalidNumber ?x_InvalidNumber ?sa_InvalidNumber ?no_InvalidNumber ?i_InvalidNumber ?ti_InvalidNumber ?l_InvalidNumber_init ?c_InvalidNumber_init ?k_InvalidNumber_init ?kS_UnknownCell ?ga_UnknownCell ?gg_UnknownCell ?sb_UnknownCell ?hd_UnknownCell ?ha_UnknownCell ?hm_UnknownCell ?ty_UnknownCell ?kp_UnknownCell ?ex_UnknownCell ?x_UnknownCell ?sa_UnknownCell ?no_UnknownCell ?i_UnknownCell ?ti_UnknownCell ?l_UnknownCell_init ?c_UnknownCell_init ?k_UnknownCell_init ?v_NAME_LETTERS ?aZ_FUNCTION_WORDS ?lZ_FUNCTION_WORDS ?aZ_ZERO ?lZ_ZERO ?n_len ?n_max ?n_abs ?n_any ?n_all ?n_isinstance ?n_range ?n_zip ?n_int ?n_bool ?n_tuple ?n_list ?n_str ?n_set ?n_sorted ?n_dict ?g_gcd
    (case a_is_whole => k_is)
    (case l_is_whole => k_is)
    (case c_is_whole => k_is)
    (case k_is_whole => k_is)
    (case a_is_ratio => k_is)
    (case l_is_ratio => k_is)
    (case c_is_ratio => k_is)
    (case k_is_ratio => k_is)
    (case a_as_ratio => k_is)
    (case l_as_ratio => k_is)
    (case c_as_ratio => k_is)
    (case k_as_ratio => k_is)
    (case a_add_ratios => k_is)
    (case l_add_ratios => k_is)
    (case c_add_ratios => k_is)
    (case k_add_ratios => k_is)
    (case a_multiply_ratios => k_is)
    (case l_multiply_ratios => k_is)
    (case c_multiply_ratios => k_is)
    (case k_multiply_ratios => k_is)
    (case a_is_name => k_is)
    (case l_is_name => k_is)
    (case c_is_name => k_is)
    (case k_is_name => k_is)
    (case a_is_form => k_is)
    (case l_is_form => k_is)
    (case c_is_form => k_is)
    (case k_is_form => k_is)
    (case a_is_term => k_is)
    (case l_is_term => k_is)
    (case c_is_term => k_is)
    (case k_is_term => k_is)
    (case a_constant_form => k_is)
    (case l_constant_form => k_is)
    (case c_constant_form => k_is)
    (case k_constant_form => k_is)
    (case a_factor_in => k_is)
    (case l_factor_in => k_is)
    (case c_factor_in => k_is)
    (case k_factor_in => k_is)
    (case a_add_forms => k_is)
    (case l_add_forms => k_is)
    (case c_add_forms => k_is)
    (case k_add_forms => k_is)
    (case a_scale_form => k_is)
    (case l_scale_form => k_is)
    (case c_scale_form => k_is)
    (case k_scale_form => k_is)
    (case a_substituted => k_is)
    (case l_substituted => k_is)
    (case c_substituted => k_is)
    (case k_substituted => k_is)
    (case a_value_at => k_is)
    (case l_value_at => k_is)
    (case c_value_at => k_is)
    (case k_value_at => k_is)
    (case a_l_box => k_is)
    (case l_l_box => k_is)
    (case c_l_box => k_is)
    (case k_l_box => k_is)
    (case a_l_mixed => k_is)
    (case l_l_mixed => k_is)
    (case c_l_mixed => k_is)
    (case k_l_mixed => k_is)
    (case a_l_take => k_is)
    (case l_l_take => k_is)
    (case c_l_take => k_is)
    (case k_l_take => k_is)
    (case a_l_shuffled => k_is)
    (case l_l_shuffled => k_is)
    (case c_l_shuffled => k_is)
    (case k_l_shuffled => k_is)
    (case a_l_names => k_is)
    (case l_l_names => k_is)
    (case c_l_names => k_is)
    (case k_l_names => k_is)
    (case a_l_shared => k_is)
    (case l_l_shared => k_is)
    (case c_l_shared => k_is)
    (case k_l_shared => k_is)
    (case a_l_ratio => k_is)
    (case l_l_ratio => k_is)
    (case c_l_ratio => k_is)
    (case k_l_ratio => k_is)
    (case a_l_plus => k_is)
    (case l_l_plus => k_is)
    (case c_l_plus => k_is)
    (case k_l_plus => k_is)
    (case a_l_times => k_is)
    (case l_l_times => k_is)
    (case c_l_times => k_is)
    (case k_l_times => k_is)
    (case a_l_number => k_is)
    (case l_l_number => k_is)
    (case c_l_number => k_is)
    (case k_l_number => k_is)
    (case a_l_given => k_is)
    (case l_l_given => k_is)
    (case c_l_given => k_is)
    (case k_l_given => k_is)
    (case a_l_form => k_is)
    (case l_l_form => k_is)
    (case c_l_form => k_is)
    (case k_l_form => k_is)
    (case a_l_joint => k_is)
    (case l_l_joint => k_is)
    (case c_l_joint => k_is)
    (case k_l_joint => k_is)
    (case a_l_scaled => k_is)
    (case l_l_scaled => k_is)
    (case c_l_scaled => k_is)
    (case k_l_scaled => k_is)
    (case a_l_worth => k_is)
    (case l_l_worth => k_is)
    (case c_l_worth => k_is)
    (case k_l_worth => k_is)
    (case a_l_drawn_form => k_is)
    (case l_l_drawn_form => k_is)
    (case c_l_drawn_form => k_is)
    (case k_l_drawn_form => k_is)
    (case a_l_worth_told => k_is)
    (case l_l_worth_told => k_is)
    (case c_l_worth_told => k_is)
    (case k_l_worth_told => k_is)
    (case a_l_lacking => k_is)
    (case l_l_lacking => k_is)
    (case c_l_lacking => k_is)
    (case k_l_lacking => k_is)
    (case a_law => k_is)
    (case l_law => k_is)
    (case c_law => k_is)
    (case k_law => k_is)
    (case a_ratio => k_is)
    (case l_ratio => k_is)
    (case c_ratio => k_is)
    (case k_ratio => k_is)
    (case t_ratio => k_is)
    (case aC_SheetError => k_is)
    (case aC_ZeroBottom => k_is)
    (case aC_InvalidNumber => k_is)
    (case aC_UnknownCell => k_is)
    (case special => first | rfl | k_is)
    (case takes => first | rfl | k_is)
    (case kS_ZeroBottom => first | rfl | k_is)
    (case ga_ZeroBottom => k_is)
    (case gg_ZeroBottom => k_is)
    (case sb_ZeroBottom => k_is)
    (case hd_ZeroBottom => k_is)
    (case ha_ZeroBottom => k_is)
    (case hm_ZeroBottom => k_is)
    (case ty_ZeroBottom => k_is)
    (case kp_ZeroBottom => k_is)
    (case ex_ZeroBottom => first | rfl | k_is)
    (case xp_ZeroBottom => k_exc)
    (case kS_InvalidNumber => first | rfl | k_is)
    (case ga_InvalidNumber => k_is)
    (case gg_InvalidNumber => k_is)
    (case sb_InvalidNumber => k_is)
    (case hd_InvalidNumber => k_is)
    (case ha_InvalidNumber => k_is)
    (case hm_InvalidNumber => k_is)
    (case ty_InvalidNumber => k_is)
    (case kp_InvalidNumber => k_is)
    (case ex_InvalidNumber => first | rfl | k_is)
    (case x_InvalidNumber => k_is)
    (case sa_InvalidNumber => k_is)
    (case no_InvalidNumber => k_is)
    (case i_InvalidNumber => k_is)
    (case ti_InvalidNumber => k_is)
    (case l_InvalidNumber_init => k_is)
    (case c_InvalidNumber_init => k_is)
    (case k_InvalidNumber_init => k_is)
    (case kS_UnknownCell => first | rfl | k_is)
    (case ga_UnknownCell => k_is)
    (case gg_UnknownCell => k_is)
    (case sb_UnknownCell => k_is)
    (case hd_UnknownCell => k_is)
    (case ha_UnknownCell => k_is)
    (case hm_UnknownCell => k_is)
    (case ty_UnknownCell => k_is)
    (case kp_UnknownCell => k_is)
    (case ex_UnknownCell => first | rfl | k_is)
    (case x_UnknownCell => k_is)
    (case sa_UnknownCell => k_is)
    (case no_UnknownCell => k_is)
    (case i_UnknownCell => k_is)
    (case ti_UnknownCell => k_is)
    (case l_UnknownCell_init => k_is)
    (case c_UnknownCell_init => k_is)
    (case k_UnknownCell_init => k_is)
    (case v_NAME_LETTERS => k_is)
    (case aZ_FUNCTION_WORDS => k_is)
    (case lZ_FUNCTION_WORDS => k_is)
    (case aZ_ZERO => k_is)
    (case lZ_ZERO => k_is)
    (case n_len => k_is)
    (case n_max => k_is)
    (case n_abs => k_is)
    (case n_any => k_is)
    (case n_all => k_is)
    (case n_isinstance => k_is)
    (case n_range => k_is)
    (case n_zip => k_is)
    (case n_int => k_is)
    (case n_bool => k_is)
    (case n_tuple => k_is)
    (case n_list => k_is)
    (case n_str => k_is)
    (case n_set => k_is)
    (case n_sorted => k_is)
    (case n_dict => k_is)
    (case g_gcd => k_is)
