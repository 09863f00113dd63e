import PyProof.Rows.All
import Wide.All
import OpenK.AllK
import Wide.FinOn
import HandS.ForMost
import HandS.Exc
import HandS.TryOnly
import HandS.ExcOwn
import HandS.WordsExc
import HandS.Wide
import HandS.Gcd
import HandS.IsInst
import HandS.EndBits
import HandS.Codes
import HandS.Flow
import HandS.TupAny
import HandS.Defaults
import HandS.Small
import HandS.NoneIn
import HandS.StrMore
import HandS.Style
import HandS.WideBits
import HandS.Replace
import HandS.Zip
import HandS.Walk
import HandS.ExcInit
import HandS.ExcField
import HandS.ExcIs

import HandS.SetTxt0
import HandS.Set
import HandS.SetFor
import HandS.More
import HandS.Strs
import HandS.Text
import HandS.Deep
import KE.KDictPairs
import KE.KUnpackStar
import PySem.Challenge.RW_backsheet_k91_tables_and_limits_written
set_option Elab.async false
set_option linter.all false
set_option maxRecDepth 100000
set_option exponentiation.threshold 20000
namespace Bs
open PySem L2
/-! ### sets of texts, made of a list; their members in order -/
section
open PySem.Spec PyProof.Rows
variable {P : Program} {w : World} {A : Around} {E : Value → Shared → Prop} {s : Shared}
/-- the table of a payload rises, and its order is that of the texts or led -/
def Wkb (w : World) (D : Froz.SD) : Prop := Ris D.2.2.place.toList ∧ (w.params.followText "set-order" = true ∨ D.2.2.led = true)
theorem wkb_add {D : Froz.SD} (hs : Int) (x : Value) (k : Wkb w D) : Wkb w (Froz.addTx hs x D) := by
  obtain ⟨es, ep, t⟩ := D
  have rise := layNew_ris t es hs x k.1
  have lead := layNew_led t es hs x
  unfold Froz.addTx Froz.tailTx
  dsimp only
  generalize layNew t es hs x = N at rise lead ⊢
  obtain ⟨es', t', wd, gv⟩ := N
  dsimp only at rise lead ⊢
  have both : ∀ t2 : SetTable, t2.place = t'.place → t2.led = t'.led → Wkb w (if (!wd && t2.tooFull) = true then ((relayAll t2 es' (SetTable.grown es'.size)).1, ep + 2, (relayAll t2 es' (SetTable.grown es'.size)).2.1) else (es', ep + 1, t2)) := fun t2 e1 e2 => by
    split
    · exact ⟨relayAll_ris t2 es' _, k.2.imp id fun z => by show (relayAll t2 es' _).2.1.led = true; rw [relayAll_led, e2, lead]; exact z⟩
    · exact ⟨by show Ris t2.place.toList; rw [e1]; exact rise, k.2.imp id fun z => by show t2.led = true; rw [e2, lead]; exact z⟩
  by_cases pl : t'.plain = true
  · rw [if_pos pl]
    exact both _ rfl rfl
  · rw [if_neg pl]
    exact both _ rfl rfl
/-- the set at a holds the texts l, each once -/
def Txts (P : Program) (w : World) (h : Heap) (a : Addr) (l : List Str) : Prop := ∃ D, h.get? a = some (Froz.sObj "set" D) ∧ Froz.TxOk P w D l ∧ Wkb w D ∧ l.Nodup
theorem Txts.at {h h' : Heap} {a : Addr} {l : List Str} (x : Txts P w h a l) (k : ∀ o, h.get? a = some o → h'.get? a = some o) : Txts P w h' a l := by
  obtain ⟨D, ho, r⟩ := x
  exact ⟨D, k _ ho, r⟩
/-- one text more -/
def addOne (l : List Str) (k : Str) : List Str := if k ∈ l then l else k :: l
theorem addOne_mem {l : List Str} {k j : Str} : j ∈ addOne l k ↔ j = k ∨ j ∈ l := by
  unfold addOne
  split
  · rename_i c
    exact ⟨.inr, fun z => z.elim (fun e => e ▸ c) id⟩
  · exact List.mem_cons
theorem addOne_len (l : List Str) (k : Str) : (addOne l k).length ≤ l.length + 1 := by
  unfold addOne
  split
  · exact Nat.le_succ _
  · exact Nat.le_refl _
/-- a text that is there already -/
theorem add_known {a : Addr} {D : Froz.SD} {l : List Str} {k : Str} {u : Tok} {Q : Bool → Shared → Prop} (at0 : s.heap.get? a = some (Froz.sObj "set" D)) (F : Froz.TxOk P w D l) (known : k ∈ l) (few : l.length < scanBound) (done : Q false s) :
    wpAny (model P w) A (setAddHashed a (.str k u) (hashStr w k)) Q E s := by
  obtain ⟨es, ep, t⟩ := D
  have dat : (Froz.sObj "set" (es, ep, t)).data = .set es ep t := rfl
  have size : es.size < scanBound := by rw [show es.size = l.length from F.sz]; exact few
  obtain ⟨e, he, hk⟩ := (F.mem k).mp known
  unfold setAddHashed setAddHashedIn
  refine wpAny_holding (wpAny_bind (wpAny_setState_of at0 dat F.fit ?_))
  dsimp only
  rw [byScan_of (x := .str k u) rfl size F.el, if_pos rfl]
  unfold setAddByScan
  refine wpAny_bind (wpAny_bind (wpAny_rule (wpAny_bind (wpAny_setScan_of (knd := strKind P w) (k := k) (Froz.is_str k u) at0 dat F.fit F.el ?_))))
  cases seek : List.findIdx? (fun e => (strKind P w).is k e.2) es.toList with
  | none =>
    have no := List.findIdx?_eq_none_iff.mp seek e he
    rw [hk] at no
    cases no
  | some j =>
    dsimp only
    exact wpAny_pure (wpAny_pure done)
theorem txts_add {a : Addr} {l : List Str} {k : Str} {u : Tok} {Q : Bool → Shared → Prop} (x : Txts P w s.heap a l) (few : l.length + 1 < scanBound)
    (goal : ∀ b h', Heap.SameBut a s.heap h' → Txts P w h' a (addOne l k) → Q b { s with heap := h' }) : wpAny (model P w) A (setAddHashed a (.str k u) (hashStr w k)) Q E s := by
  obtain ⟨D, at0, F, kb, nd⟩ := x
  by_cases known : k ∈ l
  · refine add_known at0 F known (by omega) (goal false s.heap (Heap.SameBut.refl a s.heap) ⟨D, at0, ?_⟩)
    rw [show addOne l k = l from if_pos known]
    exact ⟨F, kb, nd⟩
  · refine Froz.add_x at0 F known few (goal true _ (Heap.SameBut.update s.heap a _) ⟨_, Froz.get_upd _ at0 rfl, ?_⟩)
    rw [show addOne l k = k :: l from if_neg known]
    exact ⟨Froz.add_ok u F, wkb_add _ _ kb, List.nodup_cons.mpr ⟨known, nd⟩⟩
end
section
open PySem.Spec PyProof.Rows
variable {P : Program} {w : World} {A : Around} {E : Value → Shared → Prop} {s : Shared}
/-- what a set holds behind the first i texts -/
def Held (P : Program) (w : World) (xs : List Str) (i : Nat) (h : Heap) (a : Addr) : Prop := ∃ l, l.length ≤ i ∧ (∀ k, k ∈ l ↔ k ∈ xs.take i) ∧ Txts P w h a l
theorem Held.at {xs : List Str} {i : Nat} {h h' : Heap} {a : Addr} (x : Held P w xs i h a) (k : ∀ o, h.get? a = some o → h'.get? a = some o) : Held P w xs i h' a := by
  obtain ⟨l, e1, e2, e3⟩ := x
  exact ⟨l, e1, e2, e3.at k⟩
theorem fill_txts {I : Addr} {fp wr : List Addr} {G : Array GenState → Array GenState → Prop} {n : Nat} {Pv : Nat → Value → Prop} {St : Nat → Shared → Prop} {R : Result → Shared → Prop}
    (W : WalksS P w A.in1 I fp wr G n Pv St) (a : Addr) (out : a ∉ fp) (xs : List Str) (len : xs.length = n) (few : n + 1 < scanBound) (item : ∀ i v, Pv i v → ∃ k t, xs[i]? = some k ∧ v = .str k t) :
    ∀ (left i : Nat) (s : Shared), i + left = n → St i s → Held P w xs i s.heap a → (∀ s', Moved (a :: wr) G s s' → Held P w xs n s'.heap a → R (.ok (.ret .none)) s') →
      codeAny (model P w) A (.builtin "set.update.loop" ⟨[.ref a, .ref I], []⟩) R s := by
  have outw : a ∉ wr := fun m => out (W.sub _ m)
  have wide : ∀ b ∈ wr, b ∈ a :: wr := fun b m => List.mem_cons_of_mem _ m
  intro left
  induction left with
  | zero =>
    intro i s sum st held fin
    obtain rfl : i = n := by omega
    refine (codeAny_builtin F.entry_set_update_loop ?_); rw [Around.under_plainId (id F.plain_set_update_loop)]
    refine wpAny_bind (show wpAny _ A.in1 (pyNext (.ref I)) _ _ s from W.done s _ _ st fun s' mv => wpAny_pure (fin s' (mv.mono wide) ?_))
    exact held.at fun o e => mv.heap a o outw e
  | succ left ih =>
    intro i s sum st held fin
    have lt : i < n := by omega
    refine (codeAny_builtin F.entry_set_update_loop ?_); rw [Around.under_plainId (id F.plain_set_update_loop)]
    refine wpAny_bind (show wpAny _ A.in1 (pyNext (.ref I)) _ _ s from W.item i s _ _ lt st fun v s1 pv st1 mv => ?_)
    obtain ⟨k, t, hk, rfl⟩ := item i v pv
    obtain ⟨l, few1, same, tx⟩ := held.at (h' := s1.heap) fun o e => mv.heap a o outw e
    refine wpAny_bind (show wpAny _ A.in1 (holding [Value.str k t] (setAdd a (.str k t))) _ _ s1 from wpAny_holding ?_)
    unfold setAdd
    refine wpAny_holding (wpAny_bind ((strKind P w).pyHash (k := k) (strKind_is _ _ _ _) ?_))
    refine txts_add (s := { s1 with toks := s1.toks + 1 }) tx (by omega) fun _ h2 but tx2 => wpAny_pure ⟨plainId_quiet F.plain_set_update_loop _, ?_⟩
    have oth : ∀ b o, b ≠ a → s1.heap.get? b = some o → h2.get? b = some o := fun b o ne e => (but.2 b ne).trans e
    refine ih (i + 1) _ (by omega) (W.frame _ s1 _ _ st1 (Nat.le_succ _) fun b m o e => oth b o (fun z => out (z ▸ m)) e) ⟨_, Nat.le_trans (addOne_len l k) (by omega), fun j => ?_, tx2⟩ fun s3 mv3 held3 => ?_
    · rw [addOne_mem, same, List.take_add_one, hk, List.mem_append, Option.toList_some, List.mem_singleton]
      exact Or.comm
    · exact fin s3 (Moved.trans W.gtrans ((mv.mono wide).then_heap (Nat.le_succ _) fun b o m e => oth b o (fun z => m (z ▸ List.mem_cons_self ..)) e) mv3) held3
end

section
open PySem.Spec PyProof.Rows
variable {P : Program} {w : World} {A : Around} {E : Value → Shared → Prop} {s : Shared}
/-- an empty set as set.__new__ leaves it -/
abbrev bare (w : World) : Obj := { cls := .type "set", dict := none, data := .set #[] 0 (.fresh 0 0 (!w.params.followText "set-order")) }
theorem bare_txts {h : Heap} {a : Addr} (e : h.get? a = some (bare w)) (xs : List Str) : Held P w xs 0 h a := by
  refine ⟨[], Nat.le_refl _, fun k => by rw [List.take_zero], (#[], 0, .fresh 0 0 (!w.params.followText "set-order")), e, Froz.TxOk.nil (by rfl), ⟨List.Pairwise.nil, ?_⟩, List.nodup_nil⟩
  show _ ∨ (!w.params.followText "set-order") = true
  cases w.params.followText "set-order" <;> simp
set_option maxHeartbeats 3200000 in
theorem set_of_list {l : Addr} {items : Array Value} {xs : List Str} {Q : Value → Shared → Prop} (nh : A.handled = none) (isl : s.heap.IsList l items) (txt : StrsAre items.toList xs) (few : xs.length + 1 < scanBound)
    (goal : ∀ h' tk, Held P w xs xs.length h' s.heap.objs.size → (∀ b o, s.heap.get? b = some o → h'.get? b = some o) → Q (.ref s.heap.objs.size) { s with heap := h', toks := tk }) :
    wpAny (model P w) A (call (.type "set") [.ref l]) Q E s := by
  have len : xs.length = items.size := by rw [← StrsAre.len_eq txt, Array.length_toList]
  have item : ∀ (i : Nat) (v : Value), items[i]? = some v → ∃ k t, xs[i]? = some k ∧ v = .str k t := fun i v e => by
    have lt : i < xs.length := by rw [len]; exact (Array.getElem?_eq_some_iff.mp e).1
    obtain ⟨t, z⟩ := SS.strs_at txt i v (by rw [Array.getElem?_toList]; exact e)
    exact ⟨xs[i], t, List.getElem?_eq_getElem lt, by rw [z, List.getD_eq_getElem?_getD, List.getElem?_eq_getElem lt]; rfl⟩
  obtain ⟨c0, c1, c2⟩ := PySem.F.called_set.mro
  have c3 := PySem.F.called_set.made
  have c4 := PySem.F.called_set.sub
  have c5 := PySem.F.called_set.notType
  have c6 := PySem.F.called_set.canCreate
  have c7 := PySem.F.typeCall_set_1 (.ref l)
  refine wpAny_call (codeAny_of_tree (show wpAny _ _ (callAny (.type "set") _) _ _ _ from wpAny_pure ⟨Code.quiet_builtin _ (by decide +kernel), codeAny_builtin PySem.F.entry_type_call ?_⟩))
  rw [Around.under_plain (weight_type_call_type "set" [Value.ref l] []) rfl]
  repeat (any_goals (first | assumption | wp_step))
  refine codeAny_mono (code_set_led1 (P := P) (w := w) (Value.ref l) (E := E) (Q₁ := fun o s1 => o = .ref s.heap.objs.size ∧ s1 = { s with heap := s.heap.push (bare w) }) ⟨rfl, rfl⟩) fun r1 s1 hr => ?_
  cases r1 with
  | error e => exact hr
  | ok fl =>
    cases fl with
    | ret o =>
      obtain ⟨rfl, rfl⟩ := hr
      have new : (s.heap.push (bare w)).get? s.heap.objs.size = some (bare w) := Heap.get?_push_size _ rfl
      have ty : Shared.TypeIs { s with heap := s.heap.push (bare w) } (.ref s.heap.objs.size) "set" := ⟨_, new, rfl⟩
      have d1 := PySem.F.called_set.init.lookup
      have d2 := PySem.F.called_set.init.bind (.ref s.heap.objs.size)
      repeat (any_goals (first | assumption | wp_step))
      refine codeAny_mono (codeAny_call_builtin (R := wants (fun r s2 => r = .none ∧ ∃ h' tk, s2 = { s with heap := h', toks := tk } ∧ Held P w xs xs.length h' s.heap.objs.size ∧ (∀ b o, s.heap.get? b = some o → h'.get? b = some o)) E)
        PySem.F.called_set.init.plain PySem.F.entry_set_init (check_set_init_1 ty ?_)) fun r2 s2 h2 => ?_
      · obtain ⟨⟨oc, od, odat, osl⟩, at0, oc0, nl, od0⟩ := isl
        simp only at oc0 od0
        subst oc0 od0
        have at1 : (s.heap.push (bare w)).get? l = some { cls := .type "list", dict := od, data := .seq items nl, slots := osl } := Heap.get?_push_of_some _ at0
        have e1 := PySem.F.sub_list_set
        have e2 := PySem.F.sub_list_frozenset
        have e3 : (Value.type "list" == Value.type "dict") = false := by decide
        have is1 : (s.heap.push (bare w)).IsList l items := ⟨_, at1, rfl, nl, rfl⟩
        have below : l < s.heap.objs.size := Heap.lt_size at0
        have size1 : (s.heap.push (bare w)).objs.size = s.heap.objs.size + 1 := Heap.size_push ..
        unfold Builtin.«set.__init__» noKeywords Builtin.Frozenset.updateFrom
        generalize keep : pyIter = it0
        wp_walk
        subst keep
        refine wpAny_pyIter_list is1 (wpAny_bind (wpAny_runValue ?_))
        have nh3 : A.in1.in1.in1.handled = none := nh
        have apart : l ≠ (s.heap.push (bare w)).objs.size := by rw [size1]; exact Nat.ne_of_lt (Nat.lt_succ_of_lt below)
        refine fill_txts ((Walks.list nh3 _ l apart items).toS) s.heap.objs.size (fun m => ?_) xs len (by omega) item items.size 0 _ (Nat.zero_add _) ⟨⟨_, Heap.get?_push_size _ rfl, rfl, rfl⟩, (is1.push _)⟩ ?h0 ?hR
        · rcases List.mem_cons.mp m with z | z
          · rw [size1] at z
            exact absurd z (Nat.ne_of_lt (Nat.lt_succ_self _))
          · exact absurd (List.mem_singleton.mp z) (Nat.ne_of_gt below)
        case h0 => exact bare_txts (Heap.get?_push_of_some _ new) xs
        case hR =>
          intro s3 mv held
          obtain ⟨h3, g3, d3, t3, o3⟩ := s3
          obtain rfl : g3 = s.gens := mv.gens
          obtain rfl : d3 = s.drawn := mv.drawn
          obtain rfl : o3 = s.os := mv.os
          refine wpAny_pure (show wpAny _ _ (ret Value.none) _ _ _ from wpAny_pure ⟨rfl, h3, t3, rfl, by rw [len]; exact held, fun b o e => ?_⟩)
          have bl : b < s.heap.objs.size := Heap.lt_size e
          refine mv.heap b o (fun m => ?_) (Heap.get?_push_of_some _ (Heap.get?_push_of_some _ e))
          rcases List.mem_cons.mp m with z | z
          · exact absurd z (Nat.ne_of_lt bl)
          · have z2 := List.mem_singleton.mp z
            rw [size1] at z2
            exact absurd z2 (Nat.ne_of_lt (Nat.lt_succ_of_lt bl))
      · cases r2 with
        | error e => exact h2
        | ok f2 =>
          cases f2 with
          | ret v2 =>
            obtain ⟨rfl, h3, t3, rfl, held, kept⟩ := h2
            repeat (any_goals (first | assumption | wp_step))
            exact goal _ _ held kept
          | _ => exact h2.elim
    | _ => exact hr.elim
end

section
open PySem.Spec PyProof.Rows
/-- the set of texts at a: each of xs, nothing else -/
def SetT (P : Program) (w : World) (a : Addr) (xs : List Str) : HO := .ext fun h => Held P w xs xs.length h a
theorem setT_new {P : Program} {w : World} {H : Hp} {h : Heap} {a : Addr} {xs : List Str} (x : Held P w xs xs.length h a) : ObjOk P w H h a (SetT P w a xs) := by
  obtain ⟨l, _, _, D, at0, _⟩ := id x
  exact ⟨x, ⟨_, at0⟩, fun h1 h2 p k => p.at k⟩
theorem perm_rest {α : Type} [BEq α] [LawfulBEq α] : ∀ {l ks : List α}, l.Nodup → (∀ k, k ∈ l → k ∈ ks) → ∃ r, ks.Perm (l ++ r)
  | [], ks, _, _ => ⟨ks, List.Perm.refl _⟩
  | x :: l, ks, nd, inn => by
    obtain ⟨n1, n2⟩ := List.nodup_cons.mp nd
    obtain ⟨r, p⟩ := perm_rest (ks := ks.erase x) n2 fun k hk => (List.mem_erase_of_ne (fun e => n1 (by rw [← e]; exact hk))).mpr (inn k (List.mem_cons_of_mem _ hk))
    exact ⟨r, (List.perm_cons_erase (inn x (List.mem_cons_self ..))).trans (p.cons x)⟩
theorem all_txt : ∀ (vs : List Value) (l : List Str), (∀ v ∈ vs, ∃ k u, v = Value.str k u) → (∀ k ∈ l, ∃ u, Value.str k u ∈ vs) → ∃ ks, StrsAre vs ks ∧ ∀ k, k ∈ l → k ∈ ks := fun vs l all inn => by
  have key : ∀ vs : List Value, (∀ v ∈ vs, ∃ k u, v = Value.str k u) → ∃ ks, StrsAre vs ks ∧ ∀ k u, Value.str k u ∈ vs → k ∈ ks := by
    intro vs
    induction vs with
    | nil => exact fun _ => ⟨[], .nil, fun k u m => by cases m⟩
    | cons v vs ih =>
      intro all
      obtain ⟨ks, t, m⟩ := ih fun v hv => all v (List.mem_cons_of_mem _ hv)
      obtain ⟨k, u, rfl⟩ := all v (List.mem_cons_self ..)
      refine ⟨k :: ks, .cons k u t, fun j u2 mj => ?_⟩
      rcases List.mem_cons.mp mj with z | z
      · injection z with z1
        rw [z1]
        exact List.mem_cons_self ..
      · exact List.mem_cons_of_mem _ (m j u2 z)
  obtain ⟨ks, t, m⟩ := key vs all
  exact ⟨ks, t, fun k hk => by
    obtain ⟨u, z⟩ := inn k hk
    exact m k u z⟩
variable {X : Cx}
/-- set(a list of texts) -/
def rSetTxt (K : PySem.W.Frag) (P : Program) (w : World) : List V → Hp → VK → Prop := fun vs H Q => ∃ (a : Addr) (xs : List Str), vs = [.ref a] ∧ SqL K H a (xs.map V.str) ∧ xs.length < 1000 ∧ ∀ p, H p = none → Q (.ref p) (upd H p (SetT P w p xs))
theorem cr_setTxt (calm : X.calm = true) : CallR X (.type "set") (rSetTxt X.K X.prog X.w) := by
  intro pins s σ H vs us Q I r q
  obtain ⟨a, xs, rfl, hs, few, q⟩ := q
  rw [Vals.ref1 r]
  obtain ⟨its, rv, pl, _⟩ := I.list hs
  refine set_of_list (I.ok.hd calm) pl.isList (by simpa using strsAre_of rv) (Nat.lt_of_lt_of_le (Nat.succ_lt_succ few) (by unfold scanBound; decide)) fun h' tk held kept => ?_
  exact ⟨.ref _, _, I.laid (t' := tk) kept (Nat.le_refl _) (setT_new held), rfl, q _ (I.hok.fresh (Nat.le_refl _))⟩
/-- sorted(that set) -/
def rSortTxt (P : Program) (w : World) : List V → Hp → VK → Prop := fun vs H Q => ∃ (a : Addr) (xs : List Str), vs = [.ref a] ∧ H a = some (SetT P w a xs) ∧ xs.length < 64 ∧
  ∀ (ys : List Str) p, ys.Nodup → (∀ k, k ∈ ys ↔ k ∈ xs) → sortedS ys = true → H p = none → Q (.ref p) (upd H p (.lst (ys.map V.str)))
theorem cr_sortTxt (calm : X.calm = true) : CallR X (.builtin "sorted") (rSortTxt X.prog X.w) := by
  intro pins s σ H vs us Q I r q
  obtain ⟨a, xs, rfl, at0, few, q⟩ := q
  rw [Vals.ref1 r]
  obtain ⟨l, len, same, D, set0, F, kb, nd⟩ := (I.hok a _ at0).1
  rw [List.take_length] at same
  obtain ⟨es, ep, t⟩ := D
  have size : es.size = l.length := F.sz
  have few2 : l.length < 64 := by omega
  refine Calls.call_function_entry kind_sorted plain_sorted entry_sorted (args_sorted1 _) ?_
  unfold Builtin.«sorted»
  refine wpAny_bind (show wpAny _ _ (checkCount "sorted" 1 1 _) _ _ _ from wpAny_pure (wpAny_bind (collect_set (A := X.A.in1) (I.ok.hd calm) ⟨_, set0, rfl, rfl⟩ F.fit (by rw [size]; unfold scanBound; omega) kb.1 kb.2 fun s1 vs kept grow gens os pm => ?_)))
  obtain ⟨ks, txt, pk⟩ : ∃ ks, StrsAre vs ks ∧ ks.Perm l := by
    obtain ⟨ks, txt, inn⟩ : ∃ ks, StrsAre vs ks ∧ ∀ k, k ∈ l → k ∈ ks := by
      refine all_txt vs l (fun v hv => ?_) fun k hk => ?_
      · obtain ⟨e, he, ev⟩ := List.mem_map.mp (pm.mem_iff.mp hv)
        obtain ⟨⟨k, hk, _⟩, _⟩ := F.el e he
        obtain ⟨u, z⟩ := Value.isStrOf_shape hk
        exact ⟨k, u, by rw [← ev]; exact z⟩
      · obtain ⟨e, he, z⟩ := (F.mem k).mp hk
        obtain ⟨u, ev⟩ := Value.isStrOf_shape z
        exact ⟨u, pm.mem_iff.mpr (List.mem_map.mpr ⟨e, he, ev⟩)⟩
    obtain ⟨r, pr⟩ := perm_rest nd inn
    have : ks.length = l.length := by rw [← StrsAre.len_eq txt, pm.length_eq, List.length_map, Array.length_toList, size]
    have : r = [] := by
      have z := pr.length_eq
      rw [List.length_append] at z
      exact List.length_eq_zero_iff.mp (by omega)
    rw [this, List.append_nil] at pr
    exact ⟨ks, txt, pr⟩
  have lv : vs.length = l.length := by rw [StrsAre.len_eq txt, pk.length_eq]
  refine wpAny_bind (wpAny_newList ?_ (by rw [lv, sizeLine_eq]; omega))
  have atL : (s1.heap.push (seqObj "list" vs.toArray 0)).get? s1.heap.objs.size = some (seqObj "list" vs.toArray 0) := Heap.get?_push_size _ rfl
  refine wpAny_bind (wpAny_holding (wpAny_call_entry slot_list_sort ⟨_, atL, rfl⟩ entry_list_sort
    (list_sort_treeK strKind_oneLt atL txt.keysOf (fun v1 v2 rest e => keyKind_strs (by rw [← e]; exact txt)) (by rw [lv]; exact few2) fun st ps so => ⟨_, rfl, ?_⟩) (args_list_sort _)))
  obtain ⟨ys, y1, y2, y3⟩ := sorted_out_str txt ps so
  obtain ⟨c, at2⟩ := sortedHeap_at (vs := vs) (out := (arrOf st).map (·.2)) atL
  have yl := y2.trans pk
  refine wpAny_pure ⟨_, rfl, ?_⟩
  have old : ∀ b o, s.heap.get? b = some o → (sortedHeap (s1.heap.push (seqObj "list" vs.toArray 0)) s1.heap.objs.size vs ((arrOf st).map (·.2))).get? b = some o := fun b o e => by
    have lt := Heap.lt_size (kept b o e)
    rw [sortedHeap_old (Nat.ne_of_lt lt) (by rw [size_push']; exact Nat.lt_succ_of_lt lt)]
    exact Heap.get?_push_of_some _ (kept b o e)
  show EP X pins σ Q _ { s1 with heap := sortedHeap (s1.heap.push (seqObj "list" vs.toArray 0)) s1.heap.objs.size vs ((arrOf st).map (·.2)) }
  generalize sortedHeap (s1.heap.push (seqObj "list" vs.toArray 0)) s1.heap.objs.size vs ((arrOf st).map (·.2)) = hp at at2 old ⊢
  have fresh := I.hok.fresh grow
  have fits : (ys.map V.str).length ≤ sizeLine := by rw [List.length_map, yl.length_eq]; exact Nat.le_trans (Nat.le_of_lt few2) (by decide)
  have J : Inv X pins σ (upd H s1.heap.objs.size (.lst (ys.map V.str))) { s with heap := hp, gens := s1.gens, drawn := s1.drawn, toks := s1.toks } :=
    I.call (ch := []) (Un.laid old grow fresh) (I.hok.laid old grow ⟨fits, _, c, vals_of_strs y1, by rw [Array.toArray_toList]; exact at2⟩) (by rw [gens]; exact I.bare) (fun _ z => nomatch z)
  have whole : ({ s1 with heap := hp } : Shared) = { s with heap := hp, gens := s1.gens, drawn := s1.drawn, toks := s1.toks } := by
    cases s1
    cases s
    cases os
    rfl
  rw [whole]
  exact ⟨.ref _, _, J, rfl, q ys _ (yl.nodup_iff.mpr nd) (fun k => by rw [yl.mem_iff, same]) y3 fresh⟩
end

/-! ### names: small letters; lists of texts in order -/
section
open PySem.Spec PyProof.Rows
def az (c : Nat) : Bool := decide (97 ≤ c) && decide (c ≤ 122)
def nameL (l : List Nat) : Bool := decide (l ≠ []) && decide (l.length < 9) && l.all az && decide (l ≠ [115, 117, 109]) && decide (l ≠ [97, 118, 101, 114, 97, 103, 101])
theorem alphaC : ∀ c : Nat, c < 128 → Unicode.isAlpha c = (az c || (decide (65 ≤ c) && decide (c ≤ 90))) := by decide +kernel
theorem lowerC : ∀ c : Nat, c < 128 → Unicode.isLower c = az c := by decide +kernel
theorem upperC : ∀ c : Nat, c < 128 → (Unicode.isUpper c || Unicode.isTitle c) = (decide (65 ≤ c) && decide (c ≤ 90)) := by decide +kernel
theorem az_ascii {c : Nat} (h : az c = true) : c < 128 := by
  unfold az at h
  rw [Bool.and_eq_true, decide_eq_true_eq, decide_eq_true_eq] at h
  omega
/-- the three checks of a text's signs -/
theorem small_signs (l : List Nat) : (if l.all (· < 128) = true then (if (decide (0 < l.length) && l.all Unicode.isAlpha) = true then (l.any Unicode.isLower && !l.any fun c => Unicode.isUpper c || Unicode.isTitle c) else false) else false) = (decide (l ≠ []) && l.all az) := by
  by_cases h : l.all (· < 128) = true
  · rw [if_pos h]
    have asc : ∀ c ∈ l, c < 128 := fun c hc => by
      have := List.all_eq_true.mp h c hc
      simpa using this
    rw [Bool.eq_iff_iff]
    constructor
    · intro z
      split at z
      · rename_i z1
        rw [Bool.and_eq_true, decide_eq_true_eq] at z1
        rw [Bool.and_eq_true, Bool.not_eq_true'] at z
        rw [Bool.and_eq_true, decide_eq_true_eq]
        refine ⟨fun e => by rw [e] at z1; exact absurd z1.1 (by decide), List.all_eq_true.mpr fun c hc => ?_⟩
        have a1 := List.all_eq_true.mp z1.2 c hc
        rw [alphaC c (asc c hc), Bool.or_eq_true] at a1
        rcases a1 with a1 | a1
        · exact a1
        · have a2 := List.any_eq_false.mp z.2 c hc
          rw [upperC c (asc c hc)] at a2
          exact absurd a1 a2
      · cases z
    · intro z
      rw [Bool.and_eq_true, decide_eq_true_eq] at z
      obtain ⟨ne, all⟩ := z
      have al := List.all_eq_true.mp all
      have p1 : (decide (0 < l.length) && l.all Unicode.isAlpha) = true := by
        rw [Bool.and_eq_true, decide_eq_true_eq]
        refine ⟨List.length_pos_iff.mpr ne, List.all_eq_true.mpr fun c hc => ?_⟩
        rw [alphaC c (asc c hc), al c hc]
        rfl
      rw [if_pos p1, Bool.and_eq_true, Bool.not_eq_true']
      obtain ⟨c, r, rfl⟩ : ∃ c r, l = c :: r := by
        cases l with
        | nil => exact absurd rfl ne
        | cons c r => exact ⟨c, r, rfl⟩
      refine ⟨?_, List.any_eq_false.mpr fun d hd => ?_⟩
      · rw [List.any_cons, lowerC c (asc c (List.mem_cons_self ..)), al c (List.mem_cons_self ..)]
        rfl
      · rw [upperC d (asc d hd)]
        have := al d hd
        unfold az at this
        rw [Bool.and_eq_true, decide_eq_true_eq, decide_eq_true_eq] at this
        rw [Bool.and_eq_true, decide_eq_true_eq, decide_eq_true_eq]
        omega
  · rw [if_neg h]
    symm
    rw [Bool.and_eq_false_iff]
    refine .inr ?_
    rw [Bool.eq_false_iff]
    intro z
    refine h (List.all_eq_true.mpr fun c hc => ?_)
    rw [decide_eq_true_eq]
    exact az_ascii (List.all_eq_true.mp z c hc)
/-- the order of texts -/
def leS (x y : Str) : Prop := ¬ y.cps.toList < x.cps.toList
theorem leS_anti {x y : Str} (a : leS x y) (b : leS y x) : x = y := by
  have e : x.cps.toList = y.cps.toList := List.le_antisymm (List.not_lt.mp a) (List.not_lt.mp b)
  cases x
  cases y
  congr
  exact Array.toList_inj.mp e
theorem leS_trans {x y z : Str} (a : leS x y) (b : leS y z) : leS x z := List.not_lt.mpr (List.le_trans (List.not_lt.mp a) (List.not_lt.mp b))
theorem rising_pw : ∀ (l : List Str) (x : Str), risingS x l = true → (x :: l).Pairwise leS
  | [], x, _ => List.pairwise_singleton _ _
  | y :: l, x, h => by
    have h2 : (!ltCps y.cps.toList x.cps.toList && risingS y l) = true := h
    rw [Bool.and_eq_true, Bool.not_eq_true', ltCps_eq, decide_eq_false_iff_not] at h2
    have ih := rising_pw l y h2.2
    refine List.pairwise_cons.mpr ⟨fun z hz => ?_, ih⟩
    rcases List.mem_cons.mp hz with rfl | hz
    · exact h2.1
    · exact leS_trans h2.1 ((List.pairwise_cons.mp ih).1 z hz)
theorem sorted_pw {l : List Str} (h : sortedS l = true) : l.Pairwise leS := by
  cases l with
  | nil => exact List.Pairwise.nil
  | cons x l => exact rising_pw l x h
theorem pw_uniq : ∀ {l m : List Str}, l.Pairwise leS → m.Pairwise leS → l.Nodup → m.Nodup → (∀ k, k ∈ l ↔ k ∈ m) → l = m
  | [], [], _, _, _, _, _ => rfl
  | [], y :: m, _, _, _, _, h => absurd ((h y).mpr (List.mem_cons_self ..)) (by simp)
  | x :: l, [], _, _, _, _, h => absurd ((h x).mp (List.mem_cons_self ..)) (by simp)
  | x :: l, y :: m, p, q, n, o, h => by
    obtain ⟨p1, p2⟩ := List.pairwise_cons.mp p
    obtain ⟨q1, q2⟩ := List.pairwise_cons.mp q
    obtain ⟨n1, n2⟩ := List.nodup_cons.mp n
    obtain ⟨o1, o2⟩ := List.nodup_cons.mp o
    have e : x = y := by
      rcases List.mem_cons.mp ((h x).mp (List.mem_cons_self ..)) with z | z
      · exact z
      · rcases List.mem_cons.mp ((h y).mpr (List.mem_cons_self ..)) with u | u
        · exact u.symm
        · exact leS_anti (p1 y u) (q1 x z)
    subst e
    rw [pw_uniq p2 q2 n2 o2 fun k => ?_]
    constructor
    · intro hk
      rcases List.mem_cons.mp ((h k).mp (List.mem_cons_of_mem _ hk)) with z | z
      · exact absurd hk (by rw [z]; exact n1)
      · exact z
    · intro hk
      rcases List.mem_cons.mp ((h k).mpr (List.mem_cons_of_mem _ hk)) with z | z
      · exact absurd hk (by rw [z]; exact o1)
      · exact z
/-- in order, each once -/
def inOrder (l : List Str) : Bool := decide l.Nodup && sortedS l
theorem order_is {l m : List Str} (nd : m.Nodup) (same : ∀ k, k ∈ m ↔ k ∈ l) (so : sortedS m = true) : decide (l = m) = inOrder l := by
  unfold inOrder
  rw [Bool.eq_iff_iff, decide_eq_true_eq, Bool.and_eq_true, decide_eq_true_eq]
  constructor
  · intro e
    rw [e]
    exact ⟨nd, so⟩
  · rintro ⟨n, s⟩
    exact pw_uniq (sorted_pw s) (sorted_pw so) n nd fun k => (same k).symm
end

/-! ### a, *b = a list; xs[::2], xs[1::2] of a list -/
section
open PySem.Spec PyProof.Rows
variable {X : Cx}
/-- the first and the others -/
def gHdTl (K : PySem.W.Frag) (t : TGs) : TG := fun v σ H Q => ∃ a z xs, v = .ref a ∧ SqL K H a (z :: xs) ∧ xs.length ≤ 1000 ∧ ∀ d, H d = none → t [z, .ref d] σ (upd H d (.lst xs)) Q
theorem pg_hdtl {x y : Str} {k : Nat} {p1 p2 p3 pos : Pos} {t : TGs} (hc : X.calm = true) (h : PGs X [.Name x p1, .Name y p2] t) : PG X (.Tuple [.Name x p1, .Starred (.Name y p2) p3] k pos) (gHdTl X.K t) := by
  refine ⟨fun pins s σ H v u Q I rel want => ?_⟩
  obtain ⟨a, z, xs, rfl, hq, few, hw⟩ := want
  cases rel
  obtain ⟨read, rv, pl, hz⟩ := I.list hq
  obtain ⟨iz, ir, rz, rr, rfl⟩ : ∃ iz ir, RelV z iz ∧ Vals xs ir ∧ read = iz :: ir := by
    cases rv with
    | cons p q => exact ⟨_, _, p, q, rfl⟩
  have hl := pl.isList
  have lr := rr.length
  have size : (iz :: ir).toArray.size = ir.length + 1 := by rw [List.size_toArray, List.length_cons]
  obtain ⟨oa, hoa, _⟩ := id hl
  have lta := Heap.lt_size hoa
  have nea : a ≠ s.heap.objs.size := Nat.ne_of_lt lta
  have hh := I.ok.hd hc
  rw [PyProof.Rows.assign_Tuple]; refine wpAny_bind (wpAny_standAt ?_)
  show wpAny _ _ ((holding [.ref a] (unpackItems (.ref a) 2 (some 1))) >>= fun vs => assignInOrder ((assignEach [.Name x p1, .Name y p2] X.env).map (·.2)) vs) _ _ _
  refine wpAny_bind (wpAny_holding ?_); unfold unpackItems
  refine wpAny_bind ?_; unfold notIterableAtAll
  refine wpAny_bind (wpAny_specialOf hl.typeIs slot_list_iter.lookup (wpAny_pure ?_))
  simp only [Bool.false_eq_true, if_false]; refine wpAny_bind (wpAny_holding (wpAny_pyIter_list hl ?_))
  refine wpAny_bind (wpAny_holding (PySem.W.kun_draw nea 1 0 _ _ ⟨_, Heap.get?_push_size _ rfl, rfl, rfl⟩ (hl.push _) (by omega) fun h₁ hit₁ hs₁ => ?_))
  have hl₁ : h₁.IsList a (iz :: ir).toArray := (hl.push _).extBut hs₁.extBut nea
  rw [Nat.zero_add] at hit₁
  obtain ⟨oi, hoi, _⟩ := id hit₁
  obtain ⟨ol, hol, _⟩ := id hl₁
  have sl : sizeLine = 16777216 := PySem.sizeLine_eq
  rw [if_neg (show ¬ ((List.take 1 (List.drop 0 (iz :: ir).toArray.toList)).length < 1) from Nat.lt_irrefl 1)]
  refine wpAny_bind (wpAny_holding (PySem.W.kun_collect (s := { s with heap := h₁ }) (T := "list_iterator") (.inr (.inr (.inl rfl))) (Walks.list (A := X.A.in1) hh s.heap.objs.size a nea (iz :: ir).toArray) (fun j u st => st.1.typeIs) (k := 1) (by omega) ⟨hit₁, hl₁⟩ (Heap.lt_size hoi) (Heap.lt_size hol) (fun h₂ tk hk => ?_) (by omega)))
  show wpAny _ _ (if ir.length < 0 then _ else _) _ _ _
  rw [if_neg (by omega)]
  show wpAny _ _ (newList (ir.take ir.length) >>= fun d => pure ([iz] ++ [d] ++ ir.drop ir.length)) _ _ _
  rw [List.take_length, List.drop_length]
  have I2 : Inv X pins σ H { s with heap := h₂, toks := tk } := I.kept (t' := tk) fun b o e => hk b o (Nat.ne_of_lt (Heap.lt_size e)) (hs₁.extBut b o (Nat.ne_of_lt (Heap.lt_size e)) (Heap.get?_push_of_some _ e))
  refine wpAny_bind (wpAny_newObj_type ?_ (by show ir.toArray.size ≤ sizeLine; rw [List.size_toArray]; omega))
  refine wpAny_pure ?_
  have I3 := I2.laid (t' := tk) (h' := h₂.push { cls := .type "list", data := .seq ir.toArray }) (a := h₂.objs.size) (o := .lst xs) (fun b ob q => Heap.get?_push_of_some _ q) (Nat.le_refl _) ⟨by omega, ir, 0, rr, Heap.get?_push_size _ rfl⟩
  exact h.run pins _ σ _ [z, .ref h₂.objs.size] _ Q I3 (.cons rz (.cons rfl .nil)) (hw _ (I2.hok.fresh (Nat.le_refl _)))
end
def altL {α : Type} : List α → List α
  | [] => []
  | [x] => [x]
  | x :: _ :: r => x :: altL r
theorem altL_map {α β : Type} (f : α → β) : ∀ l : List α, altL (l.map f) = (altL l).map f
  | [] => rfl
  | [_] => rfl
  | _ :: _ :: r => congrArg (_ :: ·) (altL_map f r)
theorem altL_len {α : Type} : ∀ l : List α, (altL l).length ≤ l.length
  | [] => Nat.le_refl _
  | [_] => Nat.le_refl _
  | _ :: _ :: r => by
    have := altL_len r
    show (altL r).length + 1 ≤ r.length + 2
    omega
theorem altL_pick {α : Type} : ∀ xs : List α, ((List.range ((xs.length + 1) / 2)).filterMap fun k => xs[2 * k]?) = altL xs
  | [] => by simp [altL]
  | [x] => by simp [altL]
  | x :: y :: r => by
    have ih := altL_pick r
    rw [show ((x :: y :: r).length + 1) / 2 = (r.length + 1) / 2 + 1 by rw [List.length_cons, List.length_cons]; omega]
    rw [List.range_succ_eq_map, List.filterMap_cons]
    show x :: List.filterMap _ (List.map Nat.succ _) = x :: altL r
    rw [List.filterMap_map, ← ih]
    refine congrArg (x :: ·) ?_
    refine congrArg (fun f => List.filterMap f _) (funext fun k => ?_)
    show (x :: y :: r)[2 * (k + 1)]? = r[2 * k]?
    rw [show 2 * (k + 1) = 2 * k + 1 + 1 by omega, List.getElem?_cons_succ, List.getElem?_cons_succ]
section
open PySem.Spec PyProof.Rows
theorem two_range (a n : Nat) (h : a ≤ n) : sliceRange (a : Int) (n : Int) 2 = (List.range ((n - a + 1) / 2)).map fun k => a + 2 * k := by
  unfold sliceRange
  rw [if_pos (show (2 : Int) > 0 by decide)]
  by_cases c : (a : Int) < (n : Int)
  · rw [if_pos c]
    have e : (((n : Int) - (a : Int) + 2 - 1) / 2).toNat = (n - a + 1) / 2 := by omega
    show List.map (fun k : Nat => ((a : Int) + 2 * (k : Int)).toNat) (List.range (((n : Int) - (a : Int) + 2 - 1) / 2).toNat) = _
    rw [e]
    refine List.map_congr_left fun (k : Nat) _ => ?_
    omega
  · rw [if_neg c]
    have e : n = a := by omega
    subst e
    rw [show (n - n + 1) / 2 = 0 by omega]
    rfl
theorem alt_pick0 (items : Array Value) : slicePick items none none (some 2) = (altL items.toList).toArray := by
  unfold slicePick
  have e : sliceBounds none none (some 2) items.size = (((0 : Nat) : Int), ((items.size : Nat) : Int), 2) := rfl
  rw [e]
  show ((sliceRange ((0 : Nat) : Int) ((items.size : Nat) : Int) 2).filterMap (items[·]?)).toArray = _
  rw [two_range 0 items.size (Nat.zero_le _), List.filterMap_map, ← altL_pick, Array.length_toList]
  refine congrArg (fun f => (List.filterMap f _).toArray) (funext fun k => ?_)
  show items[0 + 2 * k]? = items.toList[2 * k]?
  rw [Nat.zero_add, Array.getElem?_toList]
theorem alt_pick1 (items : Array Value) : slicePick items (some 1) none (some 2) = (altL (items.toList.drop 1)).toArray := by
  unfold slicePick
  have e : sliceBounds (some 1) none (some 2) items.size = (max 0 (min 1 ((items.size : Nat) : Int)), ((items.size : Nat) : Int), 2) := rfl
  rw [e]
  show ((sliceRange (max 0 (min 1 ((items.size : Nat) : Int))) ((items.size : Nat) : Int) 2).filterMap (items[·]?)).toArray = _
  by_cases c : items.size = 0
  · have z : items.toList = [] := List.length_eq_zero_iff.mp (by rw [Array.length_toList]; exact c)
    rw [c, z]
    rfl
  · rw [show max 0 (min 1 ((items.size : Nat) : Int)) = ((1 : Nat) : Int) by omega]
    rw [two_range 1 items.size (by omega), List.filterMap_map, ← altL_pick, List.length_drop, Array.length_toList]
    refine congrArg (fun f => (List.filterMap f _).toArray) (funext fun k => ?_)
    show items[1 + 2 * k]? = (items.toList.drop 1)[2 * k]?
    rw [List.getElem?_drop, Array.getElem?_toList]
theorem vals_alt : ∀ {xs : List V} {its : List Value}, Vals xs its → Vals (altL xs) (altL its)
  | _, _, .nil => .nil
  | _, _, .cons p .nil => .cons p .nil
  | _, _, .cons p (.cons _ r) => .cons p (vals_alt r)
variable {X : Cx}
/-- xs[::2] -/
def tAlt (K : PySem.W.Frag) (d : Nat) (te : TE) : TE := fun σ H Q => te σ H fun x H1 => ∃ a xs, x = .ref a ∧ SqL K H1 a xs ∧ ∀ p, H1 p = none → Q (.ref p) (upd H1 p (.lst (altL (xs.drop d))))
theorem pe_alt0 {e : Expr} {te : TE} {k : Nat} {p1 p3 pos : Pos} (he : PE X e te) : PE X (.Subscript e (.Slice none none (some (.Constant (.int 2) k p1)) p3) pos) (tAlt X.K 0 te) := by
  refine ⟨fun pins s σ H Q I h => Subscript_ (thn (he.run pins s σ H _ I h) fun v s1 ⟨x, H1, I1, r1, a, xs, ex, hx, q⟩ => ?_)⟩
  subst ex
  cases r1
  have step : PO X (some (.Constant (.int 2) k p1)) (tPart (tC (.int 2))) := po_some pe_int
  have nothing : ∀ (st : Shared) (Hn : Hp), Inv X pins σ Hn st → _ := fun st Hn Jn => po_none.run (X := X) pins st σ Hn (fun part back => part = none ∧ back = Hn) Jn ⟨rfl, rfl⟩
  refine wpAny_Slice (thn (nothing s1 H1 I1) fun vl s2 ⟨_, H2, I2, pl, lo0, same2⟩ => ?_)
  subst lo0 same2
  refine thn (nothing s2 H2 I2) fun vu s3 ⟨_, H3, I3, pu, hi0, same3⟩ => ?_
  subst hi0 same3
  refine thn (step.run pins s3 σ H3 (fun part back => part = some 2 ∧ back = H3) I3 ⟨2, rfl, rfl, rfl⟩) fun vs s4 ⟨_, H4, I4, ps, st0, same4⟩ => ?_
  subst st0 same4
  have I5 : Inv X pins σ H4 { s4 with heap := s4.heap.push { cls := .type "slice", data := .fields #[vl, vu, vs] } } := I4.kept (t' := s4.toks) (fun b ob z => Heap.get?_push_of_some _ z)
  obtain ⟨its, rv, tt, size⟩ := I5.list hx
  have len := rv.length
  show wpAny (model X.prog X.w) X.A (subscriptTail e (.Slice none none (some (.Constant (.int 2) k p1)) p3) (Value.ref a) (Value.ref s4.heap.objs.size)) (EP X pins σ Q) X.xe { s4 with heap := s4.heap.push { cls := .type "slice", data := .fields #[vl, vu, vs] } }
  refine (tail_any (ops := [Value.ref a, Value.ref s4.heap.objs.size]) tt.isList.typeIs slot_list_getitem.lookup ?_ (by with_unfolding_all rfl))
  refine wpAny_getItem_list_slice tt.isList (Heap.IsSliceOf.new _ vl vu vs) pl pu ps (by decide) ?_ (by rw [List.size_toArray]; omega)
  rw [alt_pick0]
  refine ⟨.ref _, _, I5.laid (t' := s4.toks) (o := .lst (altL (xs.drop 0))) (fun b ob z => Heap.get?_push_of_some _ z) (Nat.le_refl _) ?_, rfl, q _ (I5.hok.fresh (Nat.le_refl _))⟩
  exact ⟨Nat.le_trans (altL_len _) size, _, 0, vals_alt rv, Heap.get?_push_size _ rfl⟩
theorem pe_alt1 {e : Expr} {te : TE} {k j : Nat} {p1 p2 p3 pos : Pos} (he : PE X e te) : PE X (.Subscript e (.Slice (some (.Constant (.int 1) j p2)) none (some (.Constant (.int 2) k p1)) p3) pos) (tAlt X.K 1 te) := by
  refine ⟨fun pins s σ H Q I h => Subscript_ (thn (he.run pins s σ H _ I h) fun v s1 ⟨x, H1, I1, r1, a, xs, ex, hx, q⟩ => ?_)⟩
  subst ex
  cases r1
  have step : PO X (some (.Constant (.int 2) k p1)) (tPart (tC (.int 2))) := po_some pe_int
  have start : PO X (some (.Constant (.int 1) j p2)) (tPart (tC (.int 1))) := po_some pe_int
  refine wpAny_Slice (thn (start.run pins s1 σ H1 (fun part back => part = some 1 ∧ back = H1) I1 ⟨1, rfl, rfl, rfl⟩) fun vl s2 ⟨_, H2, I2, pl, lo0, same2⟩ => ?_)
  subst lo0 same2
  refine thn (po_none.run (X := X) pins s2 σ H2 (fun part back => part = none ∧ back = H2) I2 ⟨rfl, rfl⟩) fun vu s3 ⟨_, H3, I3, pu, hi0, same3⟩ => ?_
  subst hi0 same3
  refine thn (step.run pins s3 σ H3 (fun part back => part = some 2 ∧ back = H3) I3 ⟨2, rfl, rfl, rfl⟩) fun vs s4 ⟨_, H4, I4, ps, st0, same4⟩ => ?_
  subst st0 same4
  have I5 : Inv X pins σ H4 { s4 with heap := s4.heap.push { cls := .type "slice", data := .fields #[vl, vu, vs] } } := I4.kept (t' := s4.toks) (fun b ob z => Heap.get?_push_of_some _ z)
  obtain ⟨its, rv, tt, size⟩ := I5.list hx
  have len := rv.length
  show wpAny (model X.prog X.w) X.A (subscriptTail e (.Slice (some (.Constant (.int 1) j p2)) none (some (.Constant (.int 2) k p1)) p3) (Value.ref a) (Value.ref s4.heap.objs.size)) (EP X pins σ Q) X.xe { s4 with heap := s4.heap.push { cls := .type "slice", data := .fields #[vl, vu, vs] } }
  refine (tail_any (ops := [Value.ref a, Value.ref s4.heap.objs.size]) tt.isList.typeIs slot_list_getitem.lookup ?_ (by with_unfolding_all rfl))
  refine wpAny_getItem_list_slice tt.isList (Heap.IsSliceOf.new _ vl vu vs) pl pu ps (by decide) ?_ (by rw [List.size_toArray]; omega)
  rw [alt_pick1]
  refine ⟨.ref _, _, I5.laid (t' := s4.toks) (o := .lst (altL (xs.drop 1))) (fun b ob z => Heap.get?_push_of_some _ z) (Nat.le_refl _) ?_, rfl, q _ (I5.hok.fresh (Nat.le_refl _))⟩
  refine ⟨Nat.le_trans (altL_len _) (by rw [List.length_drop]; omega), _, 0, vals_alt ?_, Heap.get?_push_size _ rfl⟩
  cases rv with
  | nil => exact .nil
  | cons p r => exact r
end

end Bs
namespace Bs
open PySem
def top (i : Nat) : Stmt := PySem.Challenge.pw_backsheet_k91_tables_and_limits_written.main.body.getD i (.Pass ⟨0, 0, 0, 0⟩)
open L2
abbrev s_InvalidNumber_init : Stmt := inClass (top 4) 0
theorem sc_InvalidNumber_init : FnScope ["self", "value"] ["self", "value"] (defScope s_InvalidNumber_init) := ⟨rfl, rfl, rfl, by decide +kernel, rfl, by decide +kernel, by decide +kernel⟩
abbrev s_InvalidText_init : Stmt := inClass (top 5) 0
theorem sc_InvalidText_init : FnScope ["self", "text"] ["self", "text"] (defScope s_InvalidText_init) := ⟨rfl, rfl, rfl, by decide +kernel, rfl, by decide +kernel, by decide +kernel⟩
abbrev s_BadText_init : Stmt := inClass (top 6) 0
theorem sc_BadText_init : FnScope ["self", "at"] ["self", "at"] (defScope s_BadText_init) := ⟨rfl, rfl, rfl, by decide +kernel, rfl, by decide +kernel, by decide +kernel⟩
abbrev s_is_whole : Stmt := top 10
theorem sc_is_whole : FnScope ["value"] ["value"] (defScope s_is_whole) := ⟨rfl, rfl, rfl, by decide +kernel, rfl, by decide +kernel, by decide +kernel⟩
abbrev s_is_ratio : Stmt := top 11
theorem sc_is_ratio : FnScope ["value", "top", "bottom"] ["value"] (defScope s_is_ratio) := ⟨rfl, rfl, rfl, by decide +kernel, rfl, by decide +kernel, by decide +kernel⟩
abbrev s_as_ratio : Stmt := top 12
theorem sc_as_ratio : FnScope ["value"] ["value"] (defScope s_as_ratio) := ⟨rfl, rfl, rfl, by decide +kernel, rfl, by decide +kernel, by decide +kernel⟩
abbrev s_ratio : Stmt := top 13
theorem sc_ratio : FnScope ["top", "bottom", "common"] ["top", "bottom"] (defScope s_ratio) := ⟨rfl, rfl, rfl, by decide +kernel, rfl, by decide +kernel, by decide +kernel⟩
abbrev s_ratio_text : Stmt := top 14
theorem sc_ratio_text : FnScope ["number", "top", "bottom"] ["number"] (defScope s_ratio_text) := ⟨rfl, rfl, rfl, by decide +kernel, rfl, by decide +kernel, by decide +kernel⟩
abbrev s_integer_text : Stmt := top 15
theorem sc_integer_text : FnScope ["number", "rest", "groups", "group", "sign"] ["number"] (defScope s_integer_text) := ⟨rfl, rfl, rfl, by decide +kernel, rfl, by decide +kernel, by decide +kernel⟩
abbrev s_read_ratio : Stmt := top 16
theorem sc_read_ratio : FnScope ["text", "unsigned", "mark", "ahead", "found", "behind", "top", "bottom"] ["text"] (defScope s_read_ratio) := ⟨rfl, rfl, rfl, by decide +kernel, rfl, by decide +kernel, by decide +kernel⟩
abbrev s_are_digits : Stmt := top 17
theorem sc_are_digits : FnScope ["text"] ["text"] (defScope s_are_digits) := ⟨rfl, rfl, rfl, by decide +kernel, rfl, by decide +kernel, by decide +kernel⟩
abbrev s_read_digits : Stmt := top 18
theorem sc_read_digits : FnScope ["digits", "first", "number", "at"] ["digits"] (defScope s_read_digits) := ⟨rfl, rfl, rfl, by decide +kernel, rfl, by decide +kernel, by decide +kernel⟩
abbrev s_is_name : Stmt := top 22
theorem sc_is_name : FnScope ["value"] ["value"] (defScope s_is_name) := ⟨rfl, rfl, rfl, by decide +kernel, rfl, by decide +kernel, by decide +kernel⟩
abbrev s_table_text : Stmt := top 24
theorem sc_table_text : FnScope ["table", "name", "number"] ["table"] (defScope s_table_text) := ⟨rfl, rfl, rfl, by decide +kernel, rfl, by decide +kernel, by decide +kernel⟩
abbrev s_read_table : Stmt := top 25
theorem sc_read_table : FnScope ["text", "part"] ["text"] (defScope s_read_table) := ⟨rfl, rfl, rfl, by decide +kernel, rfl, by decide +kernel, by decide +kernel⟩
abbrev s_limits_text : Stmt := top 26
theorem sc_limits_text : FnScope ["limits", "limit"] ["limits"] (defScope s_limits_text) := ⟨rfl, rfl, rfl, by decide +kernel, rfl, by decide +kernel, by decide +kernel⟩
abbrev s_limit_text : Stmt := top 27
theorem sc_limit_text : FnScope ["limit", "name", "low", "high", "text"] ["limit"] (defScope s_limit_text) := ⟨rfl, rfl, rfl, by decide +kernel, rfl, by decide +kernel, by decide +kernel⟩
abbrev s_read_limits : Stmt := top 28
theorem sc_read_limits : FnScope ["text", "part"] ["text"] (defScope s_read_limits) := ⟨rfl, rfl, rfl, by decide +kernel, rfl, by decide +kernel, by decide +kernel⟩
abbrev s_parts_of : Stmt := top 29
theorem sc_parts_of : FnScope ["text"] ["text"] (defScope s_parts_of) := ⟨rfl, rfl, rfl, by decide +kernel, rfl, by decide +kernel, by decide +kernel⟩
abbrev s_all_read : Stmt := top 30
theorem sc_all_read : FnScope ["found"] ["found"] (defScope s_all_read) := ⟨rfl, rfl, rfl, by decide +kernel, rfl, by decide +kernel, by decide +kernel⟩
abbrev s_read_number : Stmt := top 31
theorem sc_read_number : FnScope ["text"] ["text"] (defScope s_read_number) := ⟨rfl, rfl, rfl, by decide +kernel, rfl, by decide +kernel, by decide +kernel⟩
abbrev s_read_entry : Stmt := top 32
theorem sc_read_entry : FnScope ["part", "name", "_", "digits", "number"] ["part"] (defScope s_read_entry) := ⟨rfl, rfl, rfl, by decide +kernel, rfl, by decide +kernel, by decide +kernel⟩
abbrev s_read_limit : Stmt := top 33
theorem sc_read_limit : FnScope ["part", "name", "words", "bounds", "low", "high"] ["part"] (defScope s_read_limit) := ⟨rfl, rfl, rfl, by decide +kernel, rfl, by decide +kernel, by decide +kernel⟩
abbrev s_read_bounds : Stmt := top 34
theorem sc_read_bounds : FnScope ["words", "marks", "numbers", "word"] ["words"] (defScope s_read_bounds) := ⟨rfl, rfl, rfl, by decide +kernel, rfl, by decide +kernel, by decide +kernel⟩
abbrev s_l_box : Stmt := top 36
theorem sc_l_box : FnScope ["_law_script", "_law_great", "_law_cell"] ["_law_script"] (defScope s_l_box) := ⟨rfl, rfl, rfl, by decide +kernel, rfl, by decide +kernel, by decide +kernel⟩
abbrev s_l_mixed : Stmt := top 37
theorem sc_l_mixed : FnScope ["_law_cell", "_law_k", "_law_whole"] ["_law_cell", "_law_k"] (defScope s_l_mixed) := ⟨rfl, rfl, rfl, by decide +kernel, rfl, by decide +kernel, by decide +kernel⟩
abbrev s_l_take : Stmt := top 38
theorem sc_l_take : FnScope ["_law_box_here", "_law_size", "_law_found", "_law_cell", "_law_reach"] ["_law_box_here", "_law_size"] (defScope s_l_take) := ⟨rfl, rfl, rfl, by decide +kernel, rfl, by decide +kernel, by decide +kernel⟩
abbrev s_l_shuffled : Stmt := top 39
theorem sc_l_shuffled : FnScope ["_law_box_here", "_law_things", "_law_pile", "_law_k"] ["_law_box_here", "_law_things"] (defScope s_l_shuffled) := ⟨rfl, rfl, rfl, by decide +kernel, rfl, by decide +kernel, by decide +kernel⟩
abbrev s_l_names : Stmt := top 40
theorem sc_l_names : FnScope ["_law_box_here", "_law_many", "_law_letters", "_law_found", "_law_k", "_law_size", "_law_name", "_law_j", "_law_one"] ["_law_box_here", "_law_many"] (defScope s_l_names) := ⟨rfl, rfl, rfl, by decide +kernel, rfl, by decide +kernel, by decide +kernel⟩
abbrev s_l_shared : Stmt := top 41
theorem sc_l_shared : FnScope ["_law_one", "_law_other"] ["_law_one", "_law_other"] (defScope s_l_shared) := ⟨rfl, rfl, rfl, by decide +kernel, rfl, by decide +kernel, by decide +kernel⟩
abbrev s_l_ratio : Stmt := top 42
theorem sc_l_ratio : FnScope ["_law_top", "_law_bottom", "_law_by"] ["_law_top", "_law_bottom"] (defScope s_l_ratio) := ⟨rfl, rfl, rfl, by decide +kernel, rfl, by decide +kernel, by decide +kernel⟩
abbrev s_l_before : Stmt := top 43
theorem sc_l_before : FnScope ["_law_one", "_law_other"] ["_law_one", "_law_other"] (defScope s_l_before) := ⟨rfl, rfl, rfl, by decide +kernel, rfl, by decide +kernel, by decide +kernel⟩
abbrev s_l_number : Stmt := top 44
theorem sc_l_number : FnScope ["_law_box_here", "_law_way", "_law_top"] ["_law_box_here"] (defScope s_l_number) := ⟨rfl, rfl, rfl, by decide +kernel, rfl, by decide +kernel, by decide +kernel⟩
abbrev s_l_given : Stmt := top 45
theorem sc_l_given : FnScope ["_law_box_here", "_law_number_here"] ["_law_box_here", "_law_number_here"] (defScope s_l_given) := ⟨rfl, rfl, rfl, by decide +kernel, rfl, by decide +kernel, by decide +kernel⟩
abbrev s_l_written : Stmt := top 46
theorem sc_l_written : FnScope ["_law_number_here"] ["_law_number_here"] (defScope s_l_written) := ⟨rfl, rfl, rfl, by decide +kernel, rfl, by decide +kernel, by decide +kernel⟩
abbrev s_l_end_text : Stmt := top 47
theorem sc_l_end_text : FnScope ["_law_limit", "_law_name", "_law_low", "_law_high", "_law_text"] ["_law_limit"] (defScope s_l_end_text) := ⟨rfl, rfl, rfl, by decide +kernel, rfl, by decide +kernel, by decide +kernel⟩
abbrev s_l_reading : Stmt := top 48
theorem sc_l_reading : FnScope ["_law_way", "_law_text", "_law_found", "e"] ["_law_way", "_law_text"] (defScope s_l_reading) := ⟨rfl, rfl, rfl, by decide +kernel, rfl, by decide +kernel, by decide +kernel⟩
abbrev s_l_bad_part : Stmt := top 49
theorem sc_l_bad_part : FnScope ["_law_box_here", "_law_way", "_law_some"] ["_law_box_here", "_law_way"] (defScope s_l_bad_part) := ⟨rfl, rfl, rfl, by decide +kernel, rfl, by decide +kernel, by decide +kernel⟩
abbrev s_l_spoilt : Stmt := top 50
theorem sc_l_spoilt : FnScope ["_law_box_here", "_law_way", "_law_parts", "_law_found", "_law_k", "_law_part", "_law_good"] ["_law_box_here", "_law_way", "_law_parts"] (defScope s_l_spoilt) := ⟨rfl, rfl, rfl, by decide +kernel, rfl, by decide +kernel, by decide +kernel⟩
abbrev s_l_bent_right : Stmt := top 51
theorem sc_l_bent_right : FnScope ["_law_box_here", "_law_way", "_law_parts", "_law_spoilt_here", "_law_at"] ["_law_box_here", "_law_way", "_law_parts"] (defScope s_l_bent_right) := ⟨rfl, rfl, rfl, by decide +kernel, rfl, by decide +kernel, by decide +kernel⟩
abbrev s_l_limit_of : Stmt := top 52
theorem sc_l_limit_of : FnScope ["_law_box_here", "_law_name", "_law_one", "_law_other", "_law_ends"] ["_law_box_here", "_law_name"] (defScope s_l_limit_of) := ⟨rfl, rfl, rfl, by decide +kernel, rfl, by decide +kernel, by decide +kernel⟩
abbrev s_l_told_again : Stmt := top 53
theorem sc_l_told_again : FnScope ["_law_box_here", "_law_way", "_law_some", "_law_parts", "_law_places", "_law_text", "_law_k", "_law_at"] ["_law_box_here", "_law_way", "_law_some", "_law_parts"] (defScope s_l_told_again) := ⟨rfl, rfl, rfl, by decide +kernel, rfl, by decide +kernel, by decide +kernel⟩
abbrev s_law : Stmt := top 54
theorem sc_law : FnScope ["_law_script", "_law_box_here", "_law_turn", "_law_names_here", "_law_pairs", "_law_given_here", "_law_parts", "_law_some", "_law_turned", "_law_one", "_law_name", "_law_number_here", "_law_low", "_law_high"] ["_law_script"] (defScope s_law) := ⟨rfl, rfl, rfl, by decide +kernel, rfl, by decide +kernel, by decide +kernel⟩
open PySem L2
/-! ### numbers -/
def CPowB (i j : Int) : Prop := 0 ≤ j ∧ (Builtin.Int.intBits i : Int) * j ≤ 2 ^ 27
theorem op_powB {X : Cx} : OpR X (binaryOp .Pow) (rI CPowB fun i j => .int (i ^ j.toNat)) := opI fun _ _ _ _ _ _ _ hc q => PyProof.Rows.pow_int hc.1 hc.2 q
/-- what the module leaves of the built-in names -/
structure Bt (mg : Str → Option Value) : Prop where
  n_len : mg "len" = none
  n_max : mg "max" = none
  n_abs : mg "abs" = none
  n_any : mg "any" = none
  n_all : mg "all" = none
  n_isinstance : mg "isinstance" = none
  n_range : mg "range" = none
  n_zip : mg "zip" = none
  n_int : mg "int" = none
  n_bool : mg "bool" = none
  n_tuple : mg "tuple" = none
  n_list : mg "list" = none
/-! ### a def that is known, and a def that keeps a promise -/
def Df (K : PySem.W.Frag) (mg : Str → Option Value) (x : Str) (st : Stmt) (ps : List Str) : Prop :=
  ∃ f fd, Fun K x x st f fd ∧ mg x = some (.ref f) ∧ Binds K fd ps []
def Kn (P : Program) (w : World) (K : PySem.W.Frag) (mg : Str → Option Value) (base : Heap) (cx : CXT) (x : Str) (k : Nat) (ps : List Str) (sp : Sp) : Prop :=
  ∃ f fd, FnOk P w K mg base cx k f fd ps sp ∧ mg x = some (.ref f) ∧ PySem.W.keepIn K (.ref f) = true ∧ Binds K fd ps []
/-! ### the box of draws: a list of a list, a number, a list, a number -/
def bl (g : Addr) (cur : Int) (c : Addr) (m : Int) : List V := [.ref g, .int cur, .ref c, .int m]
structure BoxIs (H : Hp) (b g c : Addr) (gs cs : List Int) (cur m : Int) : Prop where
  hb : H b = some (.lst (bl g cur c m))
  hg : H g = some (.lst (gs.map V.int))
  hc : H c = some (.lst (cs.map V.int))
  bg : b ≠ g
  bc : b ≠ c
  gc : g ≠ c
  m0 : 0 ≤ m
  lg : gs.length ≤ 63
  lc : cs.length ≤ 63
/-- a box from which at most n numbers have been drawn -/
def Box (H : Hp) (b g c : Addr) (n : Nat) : Prop := ∃ gs cs cur m, BoxIs H b g c gs cs cur m ∧ m ≤ (n : Int)
/-- all but the box's two objects is as it was -/
def But (b g : Addr) (H H' : Hp) : Prop := ∀ a o, H a = some o → a ≠ b → a ≠ g → H' a = some o
theorem But.refl (b g : Addr) (H : Hp) : But b g H H := fun _ _ h _ _ => h
theorem But.trans {b g : Addr} {H H1 H2 : Hp} (x : But b g H H1) (y : But b g H1 H2) : But b g H H2 := fun a o h h1 h2 => y a o (x a o h h1 h2) h1 h2
theorem But.of {b g : Addr} {H H' : Hp} (x : Same H H') : But b g H H' := fun a o h _ _ => x a o h
theorem But.updb {b g : Addr} {H : Hp} {o : HO} : But b g H (upd H b o) := fun a o' h h1 _ => by rw [upd_ne h1]; exact h
theorem But.updg {b g : Addr} {H : Hp} {o : HO} : But b g H (upd H g o) := fun a o' h _ h1 => by rw [upd_ne h1]; exact h
theorem same_new {H : Hp} {p : Addr} (h : H p = none) (o : HO) : Same H (upd H p o) := fun b u q => by rw [upd_ne (ne_of_none q h)]; exact q
theorem Box.same {H H' : Hp} {b g c : Addr} {n : Nat} (x : Box H b g c n) (s : Same H H') : Box H' b g c n := by
  obtain ⟨gs, cs, cur, m, B, hm⟩ := x
  exact ⟨gs, cs, cur, m, ⟨s _ _ B.hb, s _ _ B.hg, s _ _ B.hc, B.bg, B.bc, B.gc, B.m0, B.lg, B.lc⟩, hm⟩
theorem Box.mono {H : Hp} {b g c : Addr} {n k : Nat} (x : Box H b g c n) (h : n ≤ k) : Box H b g c k := by
  obtain ⟨gs, cs, cur, m, B, hm⟩ := x
  exact ⟨gs, cs, cur, m, B, by omega⟩
theorem BoxIs.updb {H : Hp} {b g c : Addr} {gs cs : List Int} {cur m cur' m' : Int} (B : BoxIs H b g c gs cs cur m) (h : 0 ≤ m') : BoxIs (upd H b (.lst (bl g cur' c m'))) b g c gs cs cur' m' :=
  ⟨upd_same, by rw [upd_ne B.bg.symm]; exact B.hg, by rw [upd_ne B.bc.symm]; exact B.hc, B.bg, B.bc, B.gc, h, B.lg, B.lc⟩
theorem BoxIs.updg {H : Hp} {b g c : Addr} {gs cs gs' : List Int} {cur m : Int} (B : BoxIs H b g c gs cs cur m) (h : gs'.length ≤ 63) : BoxIs (upd H g (.lst (gs'.map V.int))) b g c gs' cs cur m :=
  ⟨by rw [upd_ne B.bg]; exact B.hb, upd_same, by rw [upd_ne B.gc.symm]; exact B.hc, B.bg, B.bc, B.gc, B.m0, h, B.lc⟩
theorem seqIx0 {n : Nat} : seqIndex? 0 (n + 1) = some 0 := by
  have h : ixN (n + 1) 0 = some 0 := by
    unfold ixN
    rw [if_pos (by decide), if_pos (by omega)]
    rfl
  exact (ixN_seq h).1
theorem gcd_fmod (u v : Int) : Int.gcd v (u.fmod v) = Int.gcd u v := by
  have e : u.fmod v = u - v * u.fdiv v := Int.fmod_def u v
  apply Nat.dvd_antisymm
  · have d1 : (Int.gcd v (u.fmod v) : Int) ∣ v := Int.gcd_dvd_left ..
    have d2 : (Int.gcd v (u.fmod v) : Int) ∣ u.fmod v := Int.gcd_dvd_right ..
    have d3 : (Int.gcd v (u.fmod v) : Int) ∣ u := by
      have d4 := Int.dvd_add d2 (Int.dvd_trans d1 (Int.dvd_mul_right v (u.fdiv v)))
      rw [show u.fmod v + v * u.fdiv v = u by omega] at d4
      exact d4
    exact Int.dvd_gcd d3 d1
  · have d1 : (Int.gcd u v : Int) ∣ u := Int.gcd_dvd_left ..
    have d2 : (Int.gcd u v : Int) ∣ v := Int.gcd_dvd_right ..
    refine Int.dvd_gcd d2 ?_
    rw [e]
    exact Int.dvd_sub d1 (Int.dvd_trans d2 (Int.dvd_mul_right v _))
theorem natAbs_fmod_lt {u v : Int} (h : v ≠ 0) : (u.fmod v).natAbs < v.natAbs := by
  rw [Int.fmod_eq_emod]
  have h1 := Int.emod_nonneg u h
  have h2 := Int.emod_lt u h
  split <;> omega
/-! ### promises -/
def spMixed : Sp := fun vs H Q _ => ∃ cell k : Int, vs = [.int cell, .int k] ∧ 0 ≤ k ∧ k < 2000000 ∧ ∀ r : Int, Q (.int r) H
def spTake : Sp := fun vs H Q _ => ∃ (b g c : Addr) (n : Nat) (size : Int), vs = [.ref b, .int size] ∧ Box H b g c n ∧ n < 1000000 ∧ 0 < size ∧ size.natAbs < 2 ^ 8000 ∧
  ∀ (r : Int) (H' : Hp), 0 ≤ r → r < size → Box H' b g c (n + 1) → But b g H H' → Q (.int r) H'
def spBox (K : PySem.W.Frag) : Sp := fun vs H Q _ => ∃ (a : Addr) (ns : List Int), vs = [.ref a] ∧ SqL K H a (ns.map V.int) ∧ ns.length ≤ 63 ∧
  ∀ (b g c : Addr) (H' : Hp), Box H' b g c 0 → Same H H' → H b = none → H g = none → H c = none → Q (.ref b) H'
def spShared : Sp := fun vs H Q _ => ∃ a b : Int, vs = [.int a, .int b] ∧ Q (.int (Int.gcd a b : Int)) H
section
variable {P : Program} {w : World} {K : PySem.W.Frag} {mg : Str → Option Value} {base : Heap}
theorem ok_mixed (D : Df K mg "_law_mixed" s_l_mixed ["_law_cell", "_law_k"]) : Kn P w K mg base CX0 "_law_mixed" 1 ["_law_cell", "_law_k"] spMixed := by
  obtain ⟨f, fd, F, hm, hb⟩ := D
  refine ⟨f, fd, F.ok sc_l_mixed (fun vs H Q E h => ?_) (fun cdv A outer s H vs Q E hr h => ?_), hm, F.kp, hb⟩
  · obtain ⟨cell, k, rfl, _⟩ := h
    rfl
  · obtain ⟨cell, k, rfl, k0, k1, q⟩ := h
    refine ⟨_, (pss_cons (ps_set (i := 2) sc_l_mixed.nd rfl (Or.inl rfl) (pe_op op_mod (pe_op op_powB (pe_op op_add (pe_op op_add (pe_op op_add (pe_op op_mod (pv 0) pe_int) (pe_op op_mul (pe_op op_mul pe_int (pv 1)) (pv 1))) (pe_op op_mul pe_int (pv 1))) pe_int) pe_int) pe_int))
      (pss_one (ps_ret (pe_op op_mod (pe_op op_add (pe_op op_mul (pv 2) pe_int) (pe_op op_mul pe_int (pv 1))) pe_int)))), ?_⟩
    have c0 : (0 : Int) ≤ cell % 2147483647 := Int.emod_nonneg _ (by decide)
    have c1 : cell % 2147483647 < 2147483647 := Int.emod_lt_of_pos _ (by decide)
    have kk : (0 : Int) ≤ 1009 * k * k ∧ 1009 * k * k ≤ 1009 * 2000000 * 2000000 := by
      have a1 : 0 ≤ 1009 * k := by omega
      have a2 : 1009 * k ≤ 1009 * 2000000 := by omega
      exact ⟨Int.mul_nonneg a1 k0, Int.mul_le_mul a2 (by omega) k0 (by omega)⟩
    refine ⟨_, rfl, _, _, rfl, rfl, (show (0 : Int) < 2147483647 by decide), _, rfl, _, _, rfl, rfl, .inl ⟨by decide, by decide⟩, _, rfl, _, _, rfl, rfl, .inl ⟨by omega, by omega⟩, _, _, rfl, rfl,
      _, rfl, _, _, rfl, rfl, .inl ⟨by decide, by decide⟩, _, _, rfl, rfl, _, _, rfl, rfl, _, _, rfl, rfl, ⟨by decide, ?_⟩, _, _, rfl, rfl, (show (0 : Int) < 2147483647 by decide), ?_⟩
    · generalize hz : cell % 2147483647 + 1009 * k * k + 48611 * k + 17 = z
      have z0 : 0 ≤ z := by omega
      have z1 : z < 2 ^ 64 := by omega
      have hb := intBits_le_64 (k := z) (by omega) z1
      have : (Builtin.Int.intBits z : Int) ≤ 64 := by omega
      omega
    · refine ⟨_, rfl, _, _, rfl, rfl, .inr ⟨by decide, by decide⟩, _, rfl, _, _, rfl, rfl, .inl ⟨by decide, by decide⟩, _, _, rfl, rfl, _, _, rfl, rfl, (show (0 : Int) < 1000000007 by decide), ?_⟩
      exact q _
theorem ok_shared (T : Bt mg) (D : Df K mg "_law_shared" s_l_shared ["_law_one", "_law_other"]) : Kn P w K mg base CX0 "_law_shared" 1 ["_law_one", "_law_other"] spShared := by
  obtain ⟨f, fd, F, hm, hb⟩ := D
  refine ⟨f, fd, F.ok sc_l_shared (fun vs H Q E h => ?_) (fun cdv A outer s H vs Q E hr h => ?_), hm, F.kp, hb⟩
  · obtain ⟨x, y, rfl, _⟩ := h
    rfl
  · obtain ⟨x, y, rfl, q⟩ := h
    refine ⟨_, (pss_cons (ps_while PassesOwn.never (pt_cmpR op_ne (pv 1) pe_int (nomark _)) (pss_one (ps_par (i := 0) (j := 1) (by rfl) sc_l_shared.nd rfl rfl (by decide) rfl rfl (pa_cons (pv 1) (pa_cons (pe_op op_modN (pv 0) (pv 1)) pa_nil)) (by rfl))))
      (pss_one (ps_ret (pe_callB call_abs (by rfl) T.n_abs (by decide +kernel) (pa_cons (pv 0) pa_nil))))), ?_⟩
    refine while_by (fun σ H' => H' = H ∧ ∃ u v : Int, σ = [some (.int u), some (.int v)] ∧ Int.gcd u v = Int.gcd x y) (fun σ _ => match σ with | [_, some (.int v)] => v.natAbs | _ => 0) ⟨rfl, x, y, rfl, rfl⟩ ?_ ?_
    · rintro σ H' ⟨rfl, u, v, rfl, e⟩
      refine ⟨_, rfl, rfl, _, rfl, ?_⟩
      refine ite2 (fun c => ?_) (fun c => ?_)
      · have hv : v ≠ 0 := by
          intro z
          rw [z] at c
          exact absurd c (by decide)
        refine ⟨_, rfl, _, rfl, _, rfl, _, _, rfl, rfl, hv, _, _, rfl, ⟨rfl, _, _, rfl, ?_⟩, ?_⟩
        · rw [gcd_fmod]
          exact e
        · show (u.fmod v).natAbs < v.natAbs
          exact natAbs_fmod_lt hv
      · have hv : v = 0 := by
          by_cases z : v = 0
          · exact z
          · exact absurd (by simp [z]) c
        subst hv
        refine ⟨_, rfl, _, rfl, ?_⟩
        have e2 : (if u < 0 then -u else u) = (Int.gcd x y : Int) := by
          rw [← e, Int.gcd_zero_right]
          omega
        rw [e2]
        exact q
    · intro σ H' Q1 Q2 hq h
      obtain ⟨v, h1, h2, k, h3, h4⟩ := h
      exact ⟨v, h1, h2, k, h3, hq _ _ h4⟩
theorem ok_take (T : Bt mg) (GM : Kn P w K mg base CX0 "_law_mixed" 1 ["_law_cell", "_law_k"] spMixed) (D : Df K mg "_law_take" s_l_take ["_law_box_here", "_law_size"]) :
    Kn P w K mg base CX0 "_law_take" 2 ["_law_box_here", "_law_size"] spTake := by
  obtain ⟨f, fd, F, hm, hb⟩ := D
  obtain ⟨f_l_mixed, fd_l_mixed, G_l_mixed, m_l_mixed, k_l_mixed, b_l_mixed⟩ := GM
  refine ⟨f, fd, F.ok sc_l_take (fun vs H Q E h => ?_) (fun cdv A outer s H vs Q E hr h => ?_), hm, F.kp, hb⟩
  · obtain ⟨b, g, c, n, size, rfl, _⟩ := h
    rfl
  · obtain ⟨b, g, c, n, size, rfl, ⟨gs, cs, cur, m, B, hmn⟩, hn, s0, sB, q⟩ := h
    refine ⟨_, (pss_cons (ps_asg (pe_op op_add (pe_ix ix_list (pv 0) pe_int (fun _ _ => rfl)) pe_int) (pg_sub (pv 0) pe_int set_list))
      (C8.pss_cut (ps_if (PW.pt (pw_and (pt_cmpR op_eq (pe_ix ix_list (pv 0) pe_int (fun _ _ => rfl)) pe_int (nomark _)) (pw_and1 (pt_cmpR op_gt (pe_callB call_len_seq (by rfl) T.n_len (by decide +kernel) (pa_cons (pe_ix ix_list (pv 0) pe_int (fun _ _ => rfl)) pa_nil)) pe_int (nomark _))))) (pss_one (ps_asg (pe_bm PySem.F.plainAttrs_list PySem.F.slot_list_pop PySem.F.type_list_pop mt_popAt (pe_ix ix_list (pv 0) pe_int (fun _ _ => rfl)) (pa_cons pe_int pa_nil)) (pg_sub (pv 0) pe_int set_list))) pss_nil)
      (pss_cons (ps_if (pt_cmpR op_gt (pe_ix ix_list (pv 0) pe_int (fun _ _ => rfl)) pe_int (nomark _)) (pss_cons (ps_set (i := 2) sc_l_take.nd rfl (Or.inl rfl) (pe_op op_mod (pe_ix ix_list (pv 0) pe_int (fun _ _ => rfl)) (pv 1)))
      (pss_cons (ps_asg (pe_op op_fdivW (pe_ix ix_list (pv 0) pe_int (fun _ _ => rfl)) (pv 1)) (pg_sub (pv 0) pe_int set_list))
      (pss_one (ps_ret (pv 2))))) pss_nil)
      (pss_cons (ps_set (i := 3) sc_l_take.nd rfl (Or.inl rfl) (pe_ix ix_list (pe_op op_cat (pe_ix ix_list (pv 0) pe_int (fun _ _ => rfl)) (pe_lst (pa_cons (pe_op op_mul pe_int (pe_ix ix_list (pv 0) pe_int (fun _ _ => rfl))) pa_nil))) (pe_op op_mod (pe_ix ix_list (pv 0) pe_int (fun _ _ => rfl)) (pe_callB (call_max2 rfl) (by rfl) T.n_max (by decide +kernel) (pa_cons pe_int (pa_cons (pe_callB call_len_seq (by rfl) T.n_len (by decide +kernel) (pa_cons (pe_ix ix_list (pv 0) pe_int (fun _ _ => rfl)) pa_nil)) pa_nil)))) (fun _ _ => rfl)))
      (pss_cons (ps_set (i := 2) sc_l_take.nd rfl (Or.inl rfl) pe_int)
      (pss_cons (ps_set (i := 4) sc_l_take.nd rfl (Or.inl rfl) pe_int)
      (pss_cons (ps_while PassesOwn.never (pt_cmpR op_lt (pv 4) (pv 1) (nomark _)) (pss_cons (ps_set (i := 2) sc_l_take.nd rfl (Or.inl rfl) (pe_op op_add (pe_op op_mul (pv 2) pe_int) (pe_call G_l_mixed (hr.mono (by omega)) rfl m_l_mixed k_l_mixed b_l_mixed .nil pass0 (pa_cons (pv 3) (pa_cons (pe_op op_add (pe_ix ix_list (pv 0) pe_int (fun _ _ => rfl)) (pe_op op_mul pe_int (pe_op op_mod (pv 2) pe_int))) pa_nil)))))
      (pss_one (ps_set (i := 4) sc_l_take.nd rfl (Or.inl rfl) (pe_op op_mul (pv 4) pe_int)))))
      (pss_one (ps_ret (pe_op op_mod (pv 2) (pv 1))))))))))), ?_⟩
    have m0 := B.m0
    -- box[3] = box[3] + 1
    refine ⟨_, rfl, b, _, _, .int m, rfl, rfl, SqL.of B.hb, rfl, _, _, rfl, rfl, _, rfl, b, _, _, 3, rfl, rfl, B.hb, rfl, ?_⟩
    have B1 : BoxIs (upd H b (.lst (bl g cur c (m + 1)))) b g c gs cs cur (m + 1) := B.updb (by omega)
    refine ⟨fun σ H2 => σ = start ["_law_box_here", "_law_size", "_law_found", "_law_cell", "_law_reach"] [.ref b, .int size] ∧ But b g H H2 ∧ ∃ gs2 cur2, BoxIs H2 b g c gs2 cs cur2 (m + 1), ?_, ?_⟩
    · -- if box[1] == 0 and len(box[0]) > 0: box[1] = box[0].pop(0)
      refine ⟨_, rfl, b, _, _, .int cur, rfl, rfl, SqL.of B1.hb, rfl, rfl, _, rfl, ?_⟩
      refine ite2 (fun h => ?_) (fun h => ?_)
      · refine ⟨_, rfl, b, _, _, .ref g, rfl, rfl, SqL.of B1.hb, rfl, g, _, rfl, .inl (SqL.of B1.hg), _, _, rfl, rfl, _, rfl, ?_⟩
        refine ite2 (fun h2 => ?_) (fun h2 => ?_)
        · have h3 : (0 : Int) < ((gs.map V.int).length : Nat) := of_decide_eq_true h2
          rw [List.length_map] at h3
          obtain ⟨z, gr, rfl⟩ : ∃ z gr, gs = z :: gr := by
            cases gs with
            | nil => exact absurd h3 (by decide)
            | cons z gr => exact ⟨z, gr, rfl⟩
          have lg := B.lg
          refine ⟨_, rfl, b, _, _, .ref g, rfl, rfl, SqL.of B1.hb, rfl, .inl ⟨rfl, _, SqL.of B1.hg⟩, g, _, 0, 0, .int z, rfl, rfl, B1.hg, by decide, by decide, seqIx0, rfl, ?_⟩
          have B2 : BoxIs (upd (upd H b (.lst (bl g cur c (m + 1)))) g (.lst (gr.map V.int))) b g c gr cs cur (m + 1) := B1.updg (by rw [List.length_cons] at lg; omega)
          refine ⟨_, rfl, b, _, _, 1, rfl, rfl, B2.hb, rfl, ?_⟩
          exact ⟨rfl, (But.updb.trans But.updg).trans But.updb, gr, z, B2.updb (by omega)⟩
        · exact ⟨rfl, But.updb, gs, cur, B1⟩
      · exact ⟨rfl, But.updb, gs, cur, B1⟩
    · rintro σ H2 ⟨rfl, hbut, gs2, cur2, B2⟩
      -- if box[1] > 0
      refine ⟨_, rfl, b, _, _, .int cur2, rfl, rfl, SqL.of B2.hb, rfl, _, _, rfl, rfl, _, rfl, ?_⟩
      refine ite2 (fun h => ?_) (fun h => ?_)
      · refine ⟨_, rfl, b, _, _, .int cur2, rfl, rfl, SqL.of B2.hb, rfl, _, rfl, _, _, rfl, rfl, s0, ?_⟩
        refine ⟨_, rfl, b, _, _, .int cur2, rfl, rfl, SqL.of B2.hb, rfl, _, rfl, _, _, rfl, rfl, wide_div s0 sB (by decide) (by decide), ?_⟩
        refine ⟨_, rfl, b, _, _, 1, rfl, rfl, B2.hb, rfl, ?_⟩
        refine ⟨_, rfl, ?_⟩
        exact q _ _ (Int.emod_nonneg _ (by omega)) (Int.emod_lt_of_pos _ s0) ⟨gs2, cs, _, _, B2.updb (by omega), by omega⟩ (hbut.trans But.updb)
      · -- cell = (box[2] + [7 * box[3]])[box[3] % max(1, len(box[2]))]
        refine ⟨_, rfl, b, _, _, .ref c, rfl, rfl, SqL.of B2.hb, rfl, _, rfl, b, _, _, .int (m + 1), rfl, rfl, SqL.of B2.hb, rfl, _, _, rfl, rfl, .inl ⟨by decide, by decide⟩, (by show 1 ≤ sizeLine; decide), fun p np => ?_⟩
        have s1 := same_new np (.lst [.int (7 * (m + 1))])
        have lc := B.lc
        refine ⟨c, p, _, _, rfl, rfl, s1 _ _ B2.hc, upd_same, (by rw [List.length_map]; show cs.length + 1 ≤ sizeLine; exact Nat.le_of_lt (small1000 (by omega))), fun p2 np2 => ?_⟩
        have s2 := s1.trans (same_new np2 (.lst (cs.map V.int ++ [.int (7 * (m + 1))])))
        refine ⟨_, rfl, b, _, _, .int (m + 1), rfl, rfl, SqL.of (s2 _ _ B2.hb), rfl, _, rfl, b, _, _, .ref c, rfl, rfl, SqL.of (s2 _ _ B2.hb), rfl, c, _, rfl, .inl (SqL.of (s2 _ _ B2.hc)), _, _, rfl, ?_⟩
        have hmx : ((cs.map V.int).length : Int) = cs.length := by rw [List.length_map]
        rw [hmx]
        generalize hM : (if (cs.length : Int) > 1 then (cs.length : Int) else 1) = M
        have M0 : 0 < M := by split at hM <;> omega
        have M1 : M ≤ cs.length + 1 := by split at hM <;> omega
        refine ⟨_, _, rfl, rfl, M0, ?_⟩
        have i0 := Int.emod_nonneg (m + 1) (show M ≠ 0 by omega)
        have i1 := Int.emod_lt_of_pos (m + 1) M0
        obtain ⟨v, hv⟩ : ∃ v : Int, atI (cs.map V.int ++ [.int (7 * (m + 1))]) ((m + 1) % M) = some (.int v) := by
          generalize (m + 1) % M = j at i0 i1
          obtain ⟨k, rfl⟩ : ∃ k : Nat, j = (k : Int) := ⟨j.toNat, by omega⟩
          by_cases hk : k < cs.length
          · exact ⟨cs[k], atI_nat (by rw [List.getElem?_append_left (by rw [List.length_map]; exact hk), List.getElem?_map, List.getElem?_eq_getElem hk]; rfl)⟩
          · have ek : k = cs.length := by omega
            subst ek
            exact ⟨7 * (m + 1), atI_nat (by rw [List.getElem?_append_right (by rw [List.length_map]; exact Nat.le_refl _), List.length_map, Nat.sub_self]; rfl)⟩
        refine ⟨p2, _, _, .int v, rfl, rfl, SqL.of upd_same, hv, ?_⟩
        generalize hH3 : upd (upd H2 p (.lst [.int (7 * (m + 1))])) p2 (.lst (cs.map V.int ++ [.int (7 * (m + 1))])) = H3
        rw [hH3] at s2
        have hb3 : H3 b = some (.lst (bl g cur2 c (m + 1))) := s2 _ _ B2.hb
        -- found = 0; reach = 1; while ..
        refine while_by (fun σ H' => H' = H3 ∧ ∃ u v' : Int, σ = [some (.ref b), some (.int size), some (.int u), some (.int v), some (.int v')] ∧ 1 ≤ v') (fun σ _ => match σ with | [_, _, _, _, some (.int v')] => (size - v').toNat | _ => 0) ⟨rfl, 0, 1, rfl, by decide⟩ ?_ ?_
        · rintro σ H' ⟨rfl, u, v', rfl, hv'⟩
          refine ⟨_, rfl, _, rfl, _, _, rfl, rfl, _, rfl, ?_⟩
          refine ite2 (fun c => ?_) (fun c => ?_)
          · have hlt : v' < size := of_decide_eq_true c
            refine ⟨_, rfl, _, _, rfl, rfl, .inr ⟨by decide, by decide⟩, _, rfl, _, rfl, b, _, _, .int (m + 1), rfl, rfl, SqL.of hb3, rfl, _, rfl, _, _, rfl, rfl, (show (0 : Int) < 89 by decide), _, _, rfl, rfl, .inl ⟨by decide, by decide⟩, _, _, rfl, rfl, ?_⟩
            have f0 := Int.emod_nonneg u (show (89 : Int) ≠ 0 by decide)
            have f1 := Int.emod_lt_of_pos u (show (0 : Int) < 89 by decide)
            refine ⟨_, _, rfl, by omega, by omega, fun r => ?_⟩
            refine ⟨_, _, rfl, rfl, ?_⟩
            refine ⟨_, rfl, _, _, rfl, rfl, .inr ⟨by decide, by decide⟩, ⟨rfl, _, _, rfl, by omega⟩, ?_⟩
            show (size - v' * 1000000007).toNat < (size - v').toNat
            omega
          · refine ⟨_, rfl, _, rfl, _, _, rfl, rfl, s0, ?_⟩
            exact q _ _ (Int.emod_nonneg _ (by omega)) (Int.emod_lt_of_pos _ s0) ⟨gs2, cs, cur2, m + 1, ⟨hb3, s2 _ _ B2.hg, s2 _ _ B2.hc, B2.bg, B2.bc, B2.gc, B2.m0, B2.lg, B2.lc⟩, by omega⟩ (hbut.trans (But.of s2))
        · intro σ H' Q1 Q2 hq h
          obtain ⟨v, h1, v2, h2, i, j, e1, e2, k, e3, h3⟩ := h
          exact ⟨v, h1, v2, h2, i, j, e1, e2, k, e3, hq _ _ h3⟩
end

/-! ### isinstance of a caught error whose own dict stands (or that has none) -/
open PySem.W PySem.Calls PyProof.Rows in
theorem class_of_err {prog : Program} {w : World} {A : Around} {Bad : Value → Shared → Prop} {s : Shared} {K : PySem.W.Frag} {e D : Addr} {oe : Obj} {own : Option Obj} {Want : Option Value → Shared → Prop} (cc : L2.ExcC K D)
    (KI : K.In s.heap) (J : InstAt s.heap e oe D own) (q : Want (some (.ref D)) { s with toks := s.toks + 1 }) : wpAny (model prog w) A (getAttr? (.ref e) "__class__") Want Bad s := by
  have found : findObj K D own "__class__" = some (.bind (.builtin "getset_descriptor.__get__") (.builtin "object.__class__")) := by
    obtain ⟨cd, e0, _⟩ := any_some cc.hd
    unfold findObj
    rw [e0, Option.bind_some, cc.ha, Option.bind_some]
    simp [cc.hn, cc.ht]
  obtain ⟨hp, gs, dr, tk, osx⟩ := s
  have k1 := J.type (M := model prog w)
  have k2 := looks_findIn (M := model prog w) KI cc.hg
  have k3 := looks_findIn (M := model prog w) KI cc.hk
  have k4 := looks_find (M := model prog w) KI J found
  have isB : Looks (model prog w) hp (isInstance (.ref e) (.type "BaseException")) true := k1.andThen (looks_subIn KI cc.hs)
  have n1 : (false && onTheHeap (Value.builtin "BaseException.__getattribute__")) = false := rfl
  have n2 : (onTheHeap (Value.ref D) && Value.builtin "BaseException.__getattribute__" == Value.builtin "object.__getattribute__") = false := by
    rw [show (Value.builtin "BaseException.__getattribute__" == Value.builtin "object.__getattribute__") = false by decide +kernel]
    rfl
  unfold getAttr? getAttrBy? getAttrBy
  refine wpAny_bind (wpAny_mkText (wpAny_bind (wpAny_attempt (wpAny_holding (wpAny_bind (k1.at (wpAny_bind (k2.at ?_))))))))
  show wpAny _ _ (if (onTheHeap (Value.ref D) && Value.builtin "BaseException.__getattribute__" == Value.builtin "object.__getattribute__") = true then _ else _) _ _ _
  rw [n2, if_neg Bool.false_ne_true]
  unfold getAttrByItsOwn hookBefore
  refine wpAny_bind ?_
  rw [if_pos (show onTheHeap (Value.ref D) = true from rfl)]
  refine k3.at (wpAny_bind (wpAny_attempt (wpAny_holding ?_)))
  unfold callGetattribute
  rw [n1, if_neg Bool.false_ne_true]
  unfold boundAndCalled
  rw [PySem.F.excAttr_ValueError.ga.bind (.ref e)]
  refine wpAny_bind (wpAny_pure ?_)
  show wpAny _ _ (call (.builtin "BaseException.__getattribute__") [.ref e, .str "__class__" tk]) _ _ _
  refine wpAny_call (codeAny_call_builtin PySem.F.excAttr_ValueError.ga.plain PySem.F.entry_bexc_ga ?_)
  refine @check_slot (model prog w) _ _ ⟨hp, gs, dr, tk + 1, osx⟩ "BaseException.__getattribute__" "BaseException" "__getattribute__" (.ref e) [.str "__class__" tk] [] _ (by decide +kernel) (by decide +kernel) isB (PySem.F.args_bexc_ga (.ref e) (.str "__class__" tk)) ?_
  unfold Builtin.«object.__getattribute__»
  refine wpAny_bind (wpAny_of_eq (a := ((Value.ref e : Value), [Value.str "__class__" tk])) (by first | rfl | (simp only [slotArgs]; rfl)) ?_)
  refine wpAny_bind (wpAny_pure (wpAny_bind (k1.at (wpAny_bind (k4.at ?_)))))
  show wpAny _ _ (holding [Value.builtin "object.__class__"] (call (.builtin "getset_descriptor.__get__") [.builtin "object.__class__", .ref e, .ref D]) >>= ret) _ _ _
  refine wpAny_bind (wpAny_holding (wpAny_call (class_get (s := ⟨hp, gs, dr, tk + 1, osx⟩) (ox := oe) (od := own) KI J cc.hm ?_)))
  refine wpAny_pure ?_
  show wpAny _ _ (handedOut (.ref D)) _ _ _
  rw [handedOut_of (v := .ref D) rfl]
  first
    | exact wpAny_pure (wpAny_pure q)
    | exact wpAny_pure q
    | exact wpAny_pure (wpAny_bind (wpAny_pure (wpAny_pure q)))
open PySem.W in
theorem kit_err {K : PySem.W.Frag} {e D : Addr} {oe : Obj} {own : Option Obj} (cc : L2.ExcC K D) : KitX K (.ref e) (.ref D) (fun h => InstAt h e oe D own) where
  ty := fun _ _ _ J => J.type
  it := fun _ _ KI _ => by
    obtain ⟨cd, e0, _⟩ := any_some cc.hd
    unfold clsIn at e0
    split at e0
    · rename_i _ _ _ _ at0
      intro _ _ _ _ kk qq
      unfold isType loadHead
      exact wpAny_bind (wpAny_loadPart (kk _ _ (KI _ _ at0)) (wpAny_pure qq))
    · cases e0
  ne := fun h tp dd its n sl KI htp => by
    obtain ⟨cd, e0, _⟩ := any_some cc.hd
    refine Bool.eq_false_iff.mpr fun z => ?_
    have same : D = tp := Value.ref.inj (beq_iff_eq.mp z)
    subst same
    unfold clsIn at e0
    split at e0
    · rename_i _ _ _ _ at0
      have z2 := (KI _ _ at0).symm.trans htp
      cases z2
    · cases e0
  ca := fun KI J kk => class_of_err cc KI J kk
def rIsErr (K : PySem.W.Frag) (D a : Addr) (cls : Value) (d : Option Addr) : List V → Hp → VK → Prop := fun xs H Q => ∃ (c : V) (cv : Value) (b : Bool), xs = [.ref a, c] ∧ cls = .ref D ∧ ClsV c cv ∧ PySem.W.kitOne K (.ref D) cv = some b ∧
  (d = none ∨ ∃ dd fs, d = some dd ∧ H dd = some (.xd fs)) ∧ Q (.bl b) H
theorem call_isErr {X : Cx} {a D : Addr} {oe : Obj} {cls : Value} {d : Option Addr} {pn : List (Addr × Obj)} (cc : ExcC X.K D) (hz : Zc cls d oe) (hf : ∃ vs, oe.data = .fields vs) : CallR (X.suite a ((a, oe) :: pn)) (.builtin "isinstance") (rIsErr X.K D a cls d) := by
  intro pins s σ H xs us Q I r h
  obtain ⟨c, cv, b, rfl, rfl, hcv, e, hd, q⟩ := h
  obtain ⟨u1, u2, rfl, r1, r2⟩ := vals2 r
  cases (show u1 = Value.ref a from r1)
  have e2 := hcv.eq r2
  subst e2
  obtain ⟨at0, _⟩ := I.pin (a, oe) (List.mem_append.mpr (.inl List.mem_cons_self))
  obtain ⟨vs, hv⟩ := hf
  have J : ∃ own, PySem.W.InstAt s.heap a oe D own := by
    rcases hd with rfl | ⟨dd, fs, rfl, hx⟩
    · exact ⟨none, at0, hz.1, by unfold PySem.W.notCls; rw [hv] <;> rfl, by rw [hz.2]; exact True.intro⟩
    · have hx2 : ObjOk X.prog X.w H s.heap dd (.xd fs) := I.hok dd _ hx
      obtain ⟨mA, hns, hr⟩ := hx2
      obtain ⟨od, ho, hl⟩ := lookIn_ns hns
      exact ⟨some od, at0, hz.1, by unfold PySem.W.notCls; rw [hv] <;> rfl, by rw [hz.2]; exact ho⟩
  obtain ⟨own, J⟩ := J
  exact PySem.W.kia_one (kit_err cc) I.kIn J e (fun z => nomatch z) fun tk => ⟨.bl b, H, I.kept (t' := tk) fun _ _ z => z, rfl, q⟩

/-! ### data of any depth -/
def tyN : PyData → String
  | .none => "NoneType" | .bool _ => "bool" | .int _ => "int" | .str _ => "str" | .list _ => "list" | .tuple _ => "tuple" | .dict _ => "dict"
theorem dp_ty {K : PySem.W.Frag} {H : Hp} {v : V} {d : PyData} (h : Dp K H v d) : TyX K H v (.type (tyN d)) := by
  cases h with
  | non => exact .base .non
  | bl b => exact .base (.bl b)
  | int i => exact .base (.int i)
  | str x => exact .base (.str x)
  | lst hs _ =>
    rcases hs with (h | ⟨o, h⟩) | ⟨o, its, n, e, c, _⟩
    · exact .base (.lst h)
    · exact .base (.frz h)
    · exact .kList e c
  | tup hs _ =>
    rcases hs with (h | ⟨o, h⟩) | ⟨o, its, n, e, c, _⟩
    · exact .base (.tup h)
    · exact .fTuple h
    · exact .kTuple e c
theorem cr_isi {X : Cx} {K : PySem.W.Frag} (h : X.K = K) : CallR X (.builtin "isinstance") (rIsi K) := by
  subst h
  exact call_isi
theorem cr_isiT {X : Cx} {K : PySem.W.Frag} (h : X.K = K) : CallR X (.builtin "isinstance") (rIsiT K) := by
  subst h
  exact call_isiT
theorem pg_tupK {X : Cx} {K : PySem.W.Frag} {es : List Expr} {k n : Nat} {pos : Pos} {t : TGs} (hK : X.K = K) (hc : X.calm = true) (h : PGs X es t) (hn : (assignEach es X.env).length = n) (hst : (assignEach es X.env).findIdx? (·.1) = none) : PG X (.Tuple es k pos) (gTup K n t) := by
  subst hK
  exact pg_tup hc h hn hst
theorem walk_zipT {K : PySem.W.Frag} {a b : Addr} {xs ys : List V} {n : Nat} (ex : n = xs.length) (ey : n = ys.length) : Walk (RZ.ItzT K a b) n (fun H => SqT K H a xs ∧ SqT K H b ys) (YPair (fun i => xs[i]?) (fun i => ys[i]?)) where
  goes := fun i _ hi q => ⟨xs, ys, xs[i]'(by omega), ys[i]'(by omega), q.1, q.2, List.getElem?_eq_getElem _, List.getElem?_eq_getElem _⟩
  stops := fun _ q => ⟨xs, ys, q.1, q.2, by omega⟩
  yields := fun i H v H' _ q y => by
    obtain ⟨T, x, z, h1, h2, h3, h4, h5⟩ := y
    exact ⟨T, x, z, h1, h2, h3, h4 xs q.1, h5 ys q.2⟩
theorem isi_of {K : PySem.W.Frag} {H : Hp} {v : V} {d : PyData} {T : String} {r : Bool} {Q : VK} (h : Dp K H v d) (e : kitB (tyN d) T = some r) (q : Q (.bl r) H) : rIsi K [v, .ty T] H Q :=
  ⟨v, .ty T, _, _, r, rfl, .ty T, dp_ty h, kit_ty e, q⟩
def isInt : PyData → Bool | .int _ => true | .bool _ => true | _ => false
def isBool : PyData → Bool | .bool _ => true | _ => false
def isTup : PyData → Bool | .tuple _ => true | _ => false
def isLst : PyData → Bool | .list _ => true | _ => false
def isStr : PyData → Bool | .str _ => true | _ => false
theorem kb_int (d : PyData) : kitB (tyN d) "int" = some (isInt d) := by cases d <;> (dsimp only [tyN, isInt]; decide +kernel)
theorem kb_bool (d : PyData) : kitB (tyN d) "bool" = some (isBool d) := by cases d <;> (dsimp only [tyN, isBool]; decide +kernel)
theorem kb_tup (d : PyData) : kitB (tyN d) "tuple" = some (isTup d) := by cases d <;> (dsimp only [tyN, isTup]; decide +kernel)
theorem kb_lst (d : PyData) : kitB (tyN d) "list" = some (isLst d) := by cases d <;> (dsimp only [tyN, isLst]; decide +kernel)
theorem kb_str (d : PyData) : kitB (tyN d) "str" = some (isStr d) := by cases d <;> (dsimp only [tyN, isStr]; decide +kernel)
theorem same_seqT {K : PySem.W.Frag} {H H' : Hp} {a : Addr} {xs : List V} (e : Same H H') (h : SqT K H a xs) : SqT K H' a xs := by
  rcases h with (h | ⟨o, h⟩) | h
  · exact .inl (.inl (e _ _ h))
  · exact .inl (.inr ⟨o, e _ _ h⟩)
  · exact .inr h
mutual
theorem dp_same {K : PySem.W.Frag} {H H' : Hp} (s : Same H H') : ∀ (d : PyData) (v : V), Dp K H v d → Dp K H' v d
  | .none, _, h => by cases h; exact .non
  | .bool b, _, h => by cases h; exact .bl b
  | .int i, _, h => by cases h; exact .int i
  | .str x, _, h => by cases h; exact .str x
  | .list ds, _, h => by
    cases h with
    | lst hs ha => exact .lst (s.seq hs) (dps_same s ds _ ha)
  | .tuple ds, _, h => by
    cases h with
    | tup hs ha => exact .tup (same_seqT s hs) (dps_same s ds _ ha)
  | .dict _, _, h => by cases h
theorem dps_same {K : PySem.W.Frag} {H H' : Hp} (s : Same H H') : ∀ (ds : List PyData) (vs : List V), DpAll K H vs ds → DpAll K H' vs ds
  | [], _, h => by cases h; exact .nil
  | d :: ds, _, h => by
    cases h with
    | cons h1 h2 => exact .cons (dp_same s d _ h1) (dps_same s ds _ h2)
end
theorem dps_len {K : PySem.W.Frag} {H : Hp} : ∀ {vs : List V} {ds : List PyData}, DpAll K H vs ds → vs.length = ds.length
  | _, _, .nil => rfl
  | _, _, .cons _ t => congrArg (· + 1) (dps_len t)
theorem dps_get {K : PySem.W.Frag} {H : Hp} : ∀ {vs : List V} {ds : List PyData} {i : Nat} {v : V}, DpAll K H vs ds → vs[i]? = some v → ∃ d, ds[i]? = some d ∧ Dp K H v d
  | [], _, i, v, _, h => by simp at h
  | x :: vs, ds, 0, v, a, h => by
    cases a with
    | cons h1 t =>
      have e : x = v := Option.some.inj h
      rw [← e]
      exact ⟨_, rfl, h1⟩
  | x :: vs, ds, i + 1, v, a, h => by
    cases a with
    | cons h1 t => exact dps_get (i := i) t h
/-- the ratio that a value is; the number that it stands for -/
def intOf : PyData → Option Int | .int i => some i | _ => none
def rat2 : List PyData → Option (Int × Int)
  | [a, b] => (match intOf a with
    | some t => (match intOf b with
      | some m => if 1 ≤ m ∧ Int.gcd t m = 1 then some (t, m) else none
      | none => none)
    | none => none)
  | _ => none
def ratOf : PyData → Option (Int × Int)
  | .tuple ds => rat2 ds
  | _ => none
def numOf : PyData → Option (Int × Int)
  | .int i => some (i, 1)
  | d => ratOf d
def isRat (d : PyData) : Bool := (ratOf d).isSome
def wholeD : PyData → Bool | .int _ => true | _ => false
def rat (t m : Int) : PyData := .tuple [.int t, .int m]
theorem dp_rat {K : PySem.W.Frag} {H : Hp} {p : Addr} {t m : Int} (h : H p = some (.tup [.int t, .int m])) : Dp K H (.ref p) (rat t m) := .tup (SqT.of h) (.cons (.int t) (.cons (.int m) .nil))
def spD (K : PySem.W.Frag) (f : PyData → Bool) : Sp := fun vs H Q _ => ∃ (v : V) (d : PyData), vs = [v] ∧ Dp K H v d ∧ ∀ H', Same H H' → Q (.bl (f d)) H'
theorem Kn.mono {P : Program} {w : World} {K : PySem.W.Frag} {mg : Str → Option Value} {base : Heap} {cx : CXT} {x : Str} {j k : Nat} {ps : List Str} {sp : Sp} (h : Kn P w K mg base cx x j ps sp) (l : j ≤ k) : Kn P w K mg base cx x k ps sp := by
  obtain ⟨f, fd, F, a, b, c⟩ := h
  exact ⟨f, fd, F.mono l, a, b, c⟩

/-! ### the program's ratios -/
def CDivWN (_ j : Int) : Prop := j ≠ 0 ∧ j.natAbs.log2 < 9000
theorem op_fdivWN {X : Cx} : OpR X (binaryOp .FloorDiv) (rI CDivWN fun i j => .int (i.fdiv j)) := opI fun _ _ _ _ _ _ _ hc q => PyProof.Rows.floordiv_int hc.1 q (.inl (PyProof.noPylong_of_log2 hc.2))
/-- X() of an own exception class without __init__ -/
theorem pmk_own0 {X : Cx} {C : Addr} {bmB : List Value} {B newId initId : String} {x : Str} {p pos : Pos} (F : ExcBaseFacts B newId initId bmB) (xP : PySem.W.excIn X.K C bmB newId = true) (gP : X.mg x = some (.ref C))
    (kP : PySem.W.keepIn X.K (.ref C) = true) (rP : Raises X (.ref C)) (hg : Gl X x) (hdb : (x == ("__debug__" : Str)) = false := by decide) : PMk X (.Call (.Name x p) [] [] pos) (fun _ H Q => Q (.ref C) none H) := by
  intro pins s σ H Q I want
  refine wpAny_Call_Name_kw (ld_glob I hg gP ?_ hdb)
  refine PySem.W.callWith_K0 I.kIn kP ?_
  show wpAny _ _ (call (.ref C) []) _ _ _
  obtain ⟨bm, N, nm, qn, bs, hdct, sn, sub, ab, col, dd, k0, k1, k2, k3, k5, mN, at0, hN, hni, T⟩ := exc_obj I.kIn xP
  refine wpAny_call_exc_subT F T at0 hN hni (fun h' e made => ?_) (Nat.zero_le _)
  exact mk_of I made rP want (I.hok.gone made.new)
/-- an error class with one field: what is known of it -/
def spErrInit (C : Addr) (fld : Str) : Sp := fun vs H Q _ => ∃ (e : Addr) (v : V), vs = [.ref e, v] ∧ H e = some (exo e C none) ∧ ∀ dx, H dx = none → dx ≠ e → Q .non (upd (upd H dx (exd dx [(fld, v)])) e (exo e C (some dx)))
structure ErrF (P : Program) (w : World) (K : PySem.W.Frag) (mg : Str → Option Value) (base : Heap) (x fld : Str) (C : Addr) : Prop where
  gC : mg x = some (.ref C)
  ox : OexC K C
  xf : XfC K C
  no : PySem.W.findIn K (.ref C) fld = some none
  ec : ExcC K C
  ex : PySem.W.exmOne K (.ref C) (.ref C) = some true
  ini : ∃ fI fdI, PySem.W.findIn K (.ref C) "__init__" = some (some (.ref fI)) ∧ PySem.W.typeIn K (.ref fI) = some (.type "function") ∧ FnOk P w K mg base CX0 1 fI fdI ["self", fld] (spErrInit C fld) ∧ Binds K fdI ["self", fld] []
/-- an error class without fields -/
structure ErrZ (K : PySem.W.Frag) (mg : Str → Option Value) (x : Str) (C : Addr) : Prop where
  gP : mg x = some (.ref C)
  xP : PySem.W.excIn K C [.type "ValueError", .type "Exception", .type "BaseException", .type "object"] "ValueError.__new__" = true
  kP : PySem.W.keepIn K (.ref C) = true
  bP : PySem.W.subIn K (.ref C) (.type "BaseException") = some true
  tP : PySem.W.typeIn K (.ref C) = some (.type "type")
  ec : ExcC K C
  ex : PySem.W.exmOne K (.ref C) (.ref C) = some true
/-- a def with one default, 1 -/
def Df1 (K : PySem.W.Frag) (mg : Str → Option Value) (x : Str) (st : Stmt) (ps : List Str) : Prop :=
  ∃ f fd, FunD K x x (defArgs st) (defBody st) (defScope st) [.int 1] [] f fd ∧ mg x = some (.ref f) ∧ Binds K fd ps [] ∧ ∃ ds, Vals [.int 1] ds ∧ Binds K fd ps ds
def Kn1 (P : Program) (w : World) (K : PySem.W.Frag) (mg : Str → Option Value) (base : Heap) (cx : CXT) (x : Str) (k : Nat) (ps : List Str) (sp : Sp) : Prop :=
  ∃ f fd, FnOk P w K mg base cx k f fd ps sp ∧ mg x = some (.ref f) ∧ PySem.W.keepIn K (.ref f) = true ∧ Binds K fd ps [] ∧ ∃ ds, Vals [.int 1] ds ∧ Binds K fd ps ds
def spAsRatio (K : PySem.W.Frag) (C : Addr) : Sp := fun vs H Q E => ∃ (v : V) (d : PyData), vs = [v] ∧ Dp K H v d ∧ (∀ t m r H', numOf d = some (t, m) → Same H H' → Dp K H' r (rat t m) → Q r H') ∧
  (numOf d = none → ∀ dx H', Same H H' → H' dx = some (.xd [("value", v)]) → E (.ref C) (some dx) H')
/-- top / bottom in lowest terms -/
def nt (t m : Int) : Int := (if m < 0 then -t else t) / (Int.gcd t m : Int)
def nb (t m : Int) : Int := (m.natAbs : Int) / (Int.gcd t m : Int)
theorem gcd_pos {t m : Int} (h : m ≠ 0) : 0 < (Int.gcd t m : Int) := by
  have := Int.gcd_pos_of_ne_zero_right t h
  omega
theorem gcd_le {t m : Int} (h : m ≠ 0) : Int.gcd t m ≤ m.natAbs := Nat.le_of_dvd (by omega) (Nat.gcd_dvd_right t.natAbs m.natAbs)
theorem gcd_log {t m : Int} (h : m ≠ 0) (hB : m.natAbs < 2 ^ 8000) : (Int.gcd t m : Int).natAbs.log2 < 9000 :=
  Nat.lt_trans (PySem.Flt.log2_lt_of (by decide) (show (Int.gcd t m : Int).natAbs < 2 ^ 8000 from Nat.lt_of_le_of_lt (gcd_le h) hB)) (by decide)
theorem nt_pos {t m : Int} (h : ¬ m < 0) (g : 0 < (Int.gcd t m : Int)) : t.fdiv (Int.gcd t m : Int) = nt t m := by
  unfold nt
  rw [if_neg h, Int.fdiv_eq_ediv_of_nonneg _ (by omega)]
theorem nb_pos {t m : Int} (h : ¬ m < 0) (g : 0 < (Int.gcd t m : Int)) : m.fdiv (Int.gcd t m : Int) = nb t m := by
  unfold nb
  rw [Int.fdiv_eq_ediv_of_nonneg _ (by omega), show (m.natAbs : Int) = m by omega]
theorem nt_neg {t m : Int} (h : m < 0) (g : 0 < (Int.gcd t m : Int)) : t.fdiv (-(Int.gcd t m : Int)) = nt t m := by
  unfold nt
  rw [if_pos h, ← Int.fdiv_eq_ediv_of_nonneg _ (by omega), ← Int.neg_fdiv_neg, Int.neg_neg]
theorem nb_neg {t m : Int} (h : m < 0) (g : 0 < (Int.gcd t m : Int)) : m.fdiv (-(Int.gcd t m : Int)) = nb t m := by
  unfold nb
  rw [show (m.natAbs : Int) = -m by omega, ← Int.fdiv_eq_ediv_of_nonneg _ (by omega), ← Int.neg_fdiv_neg, Int.neg_neg]
def spRatio (C : Addr) : Sp := fun vs H Q E => ∃ t m : Int, vs = [.int t, .int m] ∧ (m ≠ 0 → (Int.gcd t m : Int).natAbs.log2 < 9000) ∧ (m ≠ 0 → ∀ p H', Same H H' → H' p = some (.tup [.int (nt t m), .int (nb t m)]) → Q (.ref p) H') ∧ (m = 0 → E (.ref C) none H)
theorem ratOf_is {d : PyData} {z : Int × Int} (h : ratOf d = some z) : d = rat z.1 z.2 := by
  unfold ratOf at h
  split at h
  · unfold rat2 at h
    split at h
    · rename_i a b
      cases a <;> first | cases h | skip
      cases b <;> first | cases h | skip
      rename_i x y
      simp only [intOf] at h
      split at h
      · cases h
        rfl
      · cases h
    · cases h
  · cases h
structure Gt (mg : Str → Option Value) : Prop where
  g_gcd : mg "gcd" = some (.builtin "math.gcd")
section
variable {P : Program} {w : World} {K : PySem.W.Frag} {mg : Str → Option Value} {base : Heap}
theorem ok_is_whole (T : Bt mg) (D : Df K mg "is_whole" s_is_whole ["value"]) : Kn P w K mg base CX0 "is_whole" 1 ["value"] (spD K wholeD) := by
  obtain ⟨f, fd, F, hm, hb⟩ := D
  refine ⟨f, fd, F.ok sc_is_whole (fun vs H Q E h => ?_) (fun cdv A outer s H vs Q E hr h => ?_), hm, F.kp, hb⟩
  · obtain ⟨v, d, rfl, _⟩ := h
    rfl
  · obtain ⟨v, d, rfl, hd, q⟩ := h
    refine ⟨_, (pss_one (ps_ret (pe_and (pe_callB (cr_isi (K := K) rfl) (by rfl) T.n_isinstance (by decide +kernel) (pa_cons (pv 0) (pa_cons (pe_bltn (v := .ty "int") (by rfl) T.n_int (by decide +kernel) rfl) pa_nil))) (pe_one (pe_not (pe_callB (cr_isi (K := K) rfl) (by rfl) T.n_isinstance (by decide +kernel) (pa_cons (pv 0) (pa_cons (pe_bltn (v := .ty "bool") (by rfl) T.n_bool (by decide +kernel) rfl) pa_nil)))))))), ?_⟩
    have q0 := q H (Same.refl H)
    refine ⟨_, rfl, _, _, _, _, _, rfl, .ty _, dp_ty hd, kit_ty (kb_int d), _, rfl, ?_⟩
    refine ite2 (fun c => ?_) (fun c => ?_)
    · refine ⟨_, rfl, _, _, _, _, _, rfl, .ty _, dp_ty hd, kit_ty (kb_bool d), _, rfl, ?_⟩
      have e : (!isBool d) = wholeD d := by cases d <;> first | rfl | cases c
      rw [e]
      exact q0
    · have e : false = wholeD d := by cases d <;> first | rfl | exact absurd rfl c
      rw [e]
      exact q0
theorem ok_is_ratio (T : Bt mg) (Tg : Gt mg) (GW : Kn P w K mg base CX0 "is_whole" 1 ["value"] (spD K wholeD)) (D : Df K mg "is_ratio" s_is_ratio ["value"]) : Kn P w K mg base CX0 "is_ratio" 2 ["value"] (spD K isRat) := by
  obtain ⟨f, fd, F, hm, hb⟩ := D
  obtain ⟨f_is_whole, fd_is_whole, G_is_whole, m_is_whole, k_is_whole, b_is_whole⟩ := GW
  refine ⟨f, fd, F.ok sc_is_ratio (fun vs H Q E h => ?_) (fun cdv A outer s H vs Q E hr h => ?_), hm, F.kp, hb⟩
  · obtain ⟨v, d, rfl, _⟩ := h
    rfl
  · obtain ⟨v, d, rfl, hd, q⟩ := h
    refine ⟨_, (pss_cons (ps_if (PW.pt (pw_or (pt_not (pt_val (pe_callB (cr_isi (K := K) rfl) (by rfl) T.n_isinstance (by decide +kernel) (pa_cons (pv 0) (pa_cons (pe_bltn (v := .ty "tuple") (by rfl) T.n_tuple (by decide +kernel) rfl) pa_nil))))) (pw_or1 (pt_cmpR op_ne (pe_callB call_len_seq (by rfl) T.n_len (by decide +kernel) (pa_cons (pv 0) pa_nil)) pe_int (nomark _))))) (pss_one (ps_ret pe_bl)) pss_nil)
      (pss_cons (ps_asg (pv 0) (pg_tup (by rfl) (pgs_cons (pg_name (i := 1) sc_is_ratio.nd rfl (Or.inl rfl)) (pgs_cons (pg_name (i := 2) sc_is_ratio.nd rfl (Or.inl rfl)) pgs_nil))))
      (pss_cons (ps_if (PW.pt (pw_or (pt_not (pt_val (pe_call G_is_whole (hr.mono (by omega)) rfl m_is_whole k_is_whole b_is_whole .nil pass0 (pa_cons (pv 1) pa_nil)))) (pw_or (pt_not (pt_val (pe_call G_is_whole (hr.mono (by omega)) rfl m_is_whole k_is_whole b_is_whole .nil pass0 (pa_cons (pv 2) pa_nil)))) (pw_or1 (pt_cmpR op_lt (pv 2) pe_int (nomark _)))))) (pss_one (ps_ret pe_bl)) pss_nil)
      (pss_one (ps_ret (pe_cmpR op_eq (pe_callBfun cr_gcd rfl Tg.g_gcd (pa_cons (pv 1) (pa_cons (pv 2) pa_nil))) pe_int (nomark _))))))), ?_⟩
    refine ⟨_, rfl, _, _, _, _, _, rfl, .ty _, dp_ty hd, kit_ty (kb_tup d), _, rfl, ?_⟩
    refine ite2 (fun c => ?_) (fun c => ?_)
    · have e : isRat d = false := by cases d <;> first | rfl | cases c
      have q0 := q H (Same.refl H)
      rw [e] at q0
      exact q0
    · obtain ⟨ds, rfl⟩ : ∃ ds, d = .tuple ds := by cases d <;> first | exact ⟨_, rfl⟩ | exact absurd rfl c
      cases hd with
      | @tup a xs _ hs ha =>
        have hl := dps_len ha
        refine ⟨_, rfl, a, _, rfl, .inr hs, rfl, _, rfl, ?_⟩
        refine ite2 (fun c2 => ?_) (fun c2 => ?_)
        · have e : isRat (.tuple ds) = false := by
            match ds, xs, hl, c2 with
            | [], _, _, _ => rfl
            | [_], _, _, _ => rfl
            | [_, _], xs, hl, c2 =>
              have hl2 : xs.length = 2 := hl
              rw [hl2] at c2
              exact absurd c2 (by decide)
            | _ :: _ :: _ :: _, _, _, _ => rfl
          have q0 := q H (Same.refl H)
          rw [e] at q0
          exact q0
        · have h2 : xs.length = 2 := by
            by_cases z : (xs.length : Int) = 2
            · omega
            · exact absurd (by simp [z]) c2
          obtain ⟨d1, d2, rfl⟩ : ∃ d1 d2, ds = [d1, d2] := by
            rw [h2] at hl
            match ds, hl with
            | [d1, d2], _ => exact ⟨d1, d2, rfl⟩
          cases ha with
          | @cons x1 _ _ _ h1 ha =>
            cases ha with
            | @cons x2 _ _ _ hx2 ha =>
              cases ha
              refine ⟨_, rfl, a, _, rfl, hs, rfl, x1, _, rfl, x2, _, rfl, rfl, ?_⟩
              refine ⟨_, rfl, x1, d1, rfl, h1, fun H1 s1 => ⟨_, rfl, ?_⟩⟩
              refine ite2 (fun c3 => ?_) (fun c3 => ?_)
              · have e : isRat (.tuple [d1, d2]) = false := by cases d1 <;> first | rfl | cases c3
                have q0 := q H1 s1
                rw [e] at q0
                exact q0
              · obtain ⟨t, rfl⟩ : ∃ t, d1 = .int t := by cases d1 <;> first | exact ⟨_, rfl⟩ | exact absurd rfl c3
                refine ⟨_, rfl, x2, d2, rfl, dp_same s1 _ _ hx2, fun H2 s2 => ⟨_, rfl, ?_⟩⟩
                refine ite2 (fun c4 => ?_) (fun c4 => ?_)
                · have e : isRat (.tuple [.int t, d2]) = false := by cases d2 <;> first | rfl | cases c4
                  have q0 := q H2 (s1.trans s2)
                  rw [e] at q0
                  exact q0
                · obtain ⟨m, rfl⟩ : ∃ m, d2 = .int m := by cases d2 <;> first | exact ⟨_, rfl⟩ | exact absurd rfl c4
                  cases h1
                  cases hx2
                  refine ⟨_, rfl, _, _, rfl, rfl, _, rfl, ?_⟩
                  refine ite2 (fun c5 => ?_) (fun c5 => ?_)
                  · have c6 : m < 1 := of_decide_eq_true c5
                    have e : isRat (.tuple [.int t, .int m]) = false := by
                      show (if 1 ≤ m ∧ Int.gcd t m = 1 then some (t, m) else none).isSome = false
                      rw [if_neg (by omega)]
                      rfl
                    have q0 := q H2 (s1.trans s2)
                    rw [e] at q0
                    exact q0
                  · have c6 : ¬ m < 1 := of_decide_eq_false (Bool.eq_false_iff.mpr c5)
                    refine ⟨_, rfl, _, rfl, _, _, rfl, rfl, ?_⟩
                    have e : isRat (.tuple [.int t, .int m]) = decide ((V.int ((Nat.gcd t.natAbs m.natAbs : Nat) : Int)) = V.int 1) := by
                      show (if 1 ≤ m ∧ Int.gcd t m = 1 then some (t, m) else none).isSome = _
                      have g : Int.gcd t m = Nat.gcd t.natAbs m.natAbs := rfl
                      rw [g]
                      by_cases z : Nat.gcd t.natAbs m.natAbs = 1
                      · rw [if_pos ⟨by omega, z⟩, z]
                        rfl
                      · rw [if_neg (fun y => z y.2)]
                        symm
                        apply decide_eq_false
                        intro y
                        injection y with y
                        omega
                    have q0 := q H2 (s1.trans s2)
                    rw [e] at q0
                    exact q0
theorem ok_errinit {x : Str} {C f : Addr} {fd : FuncData} (F : Fun K "__init__" x s_InvalidNumber_init f fd) (ox : OexC K C) (no : PySem.W.findIn K (.ref C) "value" = some none) : FnOk P w K mg base CX0 1 f fd ["self", "value"] (spErrInit C "value") := by
  refine F.ok sc_InvalidNumber_init (fun vs H Q E h => ?_) (fun cdv A outer s H vs Q E hr h => ?_)
  · obtain ⟨e, v, rfl, _⟩ := h
    rfl
  · obtain ⟨e, v, rfl, he, q⟩ := h
    refine ⟨_, pss_one (ps_ost (pv 0) (pv 1)), ?_⟩
    exact ⟨_, rfl, _, rfl, e, C, rfl, ox, no, .inl ⟨he, fun dx h1 h2 => q dx h1 h2⟩⟩
theorem ok_as_ratio {C : Addr} (T : Bt mg) (Ti : ErrF P w K mg base "InvalidNumber" "value" C) (GW : Kn P w K mg base CX0 "is_whole" 1 ["value"] (spD K wholeD)) (GR : Kn P w K mg base CX0 "is_ratio" 2 ["value"] (spD K isRat)) (D : Df K mg "as_ratio" s_as_ratio ["value"]) :
    Kn P w K mg base (L2.CX P w) "as_ratio" 3 ["value"] (spAsRatio K C) := by
  obtain ⟨f, fd, F, hm, hb⟩ := D
  obtain ⟨f_is_whole, fd_is_whole, G_is_whole, m_is_whole, k_is_whole, b_is_whole⟩ := GW
  obtain ⟨f_is_ratio, fd_is_ratio, G_is_ratio, m_is_ratio, k_is_ratio, b_is_ratio⟩ := GR
  obtain ⟨fI, fdI, iC, tI, F1, b1⟩ := Ti.ini
  refine ⟨f, fd, F.okX sc_as_ratio (fun vs H Q E h => ?_) (fun cdv A outer s H vs Q E hr h => ?_), hm, F.kp, hb⟩
  · obtain ⟨v, d, rfl, _⟩ := h
    rfl
  · obtain ⟨v, d, rfl, hd, q1, q2⟩ := h
    refine ⟨_, (pss_cons (ps_if (pt_val (pe_call G_is_whole (hr.mono (by omega)) rfl m_is_whole k_is_whole b_is_whole .nil pass0 (pa_cons (pv 0) pa_nil))) (pss_one (ps_ret (pe_tup (pa_cons (pv 0) (pa_cons pe_int pa_nil))))) pss_nil)
      (pss_cons (ps_if (pt_not (pt_val (pe_call G_is_ratio (hr.mono (by omega)) rfl m_is_ratio k_is_ratio b_is_ratio .nil pass0 (pa_cons (pv 0) pa_nil)))) (pss_one (ps_raise rfl (takes_of rfl rfl rfl rfl) (pmk_oex Ti.ox iC tI F1 (hr.mono (by omega)) b1 .nil pass0 rfl Ti.gC (pa_cons (pv 0) pa_nil)))) pss_nil)
      (pss_one (ps_ret (pv 0))))), ?_⟩
    refine ⟨_, rfl, v, d, rfl, hd, fun H1 s1 => ⟨_, rfl, ?_⟩⟩
    have hd1 := dp_same s1 _ _ hd
    refine ite2 (fun c => ?_) (fun c => ?_)
    · obtain ⟨t, rfl⟩ : ∃ t, d = .int t := by cases d <;> first | exact ⟨_, rfl⟩ | cases c
      cases hd
      refine ⟨_, rfl, (by show 2 ≤ sizeLine; decide), fun p np => ?_⟩
      exact q1 t 1 _ _ rfl (s1.trans (same_new np _)) (dp_rat upd_same)
    · refine ⟨_, rfl, v, d, rfl, hd1, fun H2 s2 => ⟨_, rfl, ?_⟩⟩
      refine ite2 (fun c2 => ?_) (fun c2 => ?_)
      · have e : numOf d = none := by
          cases hr : ratOf d with
          | some z =>
            unfold isRat at c2
            rw [hr] at c2
            cases c2
          | none =>
            cases d <;> first | exact hr | exact absurd rfl c
        refine ⟨_, rfl, (by show 1 ≤ 1000; decide), fun a na => ?_⟩
        refine ⟨a, v, rfl, upd_same, fun dx hdx nx => ⟨rfl, dx, [("value", v)], upd_same, ?_, ?_, ?_⟩⟩
        · rw [upd_ne nx, upd_same]
        · rw [upd_ne nx] at hdx
          exact hdx
        · rw [upd_ne nx] at hdx
          refine q2 e dx _ (s1.trans (s2.trans fun b o hbo => ?_)) upd_same
          have n1 : b ≠ a := ne_of_none hbo na
          have n2 : b ≠ dx := ne_of_none hbo hdx
          rw [upd_ne n2, del_ne n1, upd_ne n1, upd_ne n2, upd_ne n1]
          exact hbo
      · refine ⟨_, rfl, ?_⟩
        obtain ⟨t, m, hr, rfl⟩ : ∃ t m, ratOf d = some (t, m) ∧ d = rat t m := by
          cases hr : ratOf d with
          | none =>
            unfold isRat at c2
            rw [hr] at c2
            exact absurd rfl c2
          | some z => exact ⟨z.1, z.2, rfl, ratOf_is hr⟩
        exact q1 t m _ _ hr (s1.trans s2) (dp_same s2 _ _ hd1)
end

section
variable {P : Program} {w : World} {K : PySem.W.Frag} {mg : Str → Option Value} {base : Heap}
theorem ok_ratio {C : Addr} (T : Bt mg) (Tg : Gt mg) (Tz : ErrZ K mg "ZeroBottom" C) (D : Df1 K mg "ratio" s_ratio ["top", "bottom"]) : Kn1 P w K mg base (L2.CX P w) "ratio" 1 ["top", "bottom"] (spRatio C) := by
  obtain ⟨f, fd, F, hm, hb, hb1⟩ := D
  refine ⟨f, fd, F.ok sc_ratio (fun vs H Q E h => ?_) (fun cdv A outer s H vs Q E hr h => ?_), hm, F.kp, hb, hb1⟩
  · obtain ⟨t, m, rfl, _⟩ := h
    rfl
  · obtain ⟨t, m, rfl, hB, q1, q2⟩ := h
    refine ⟨_, (pss_cons (ps_if (pt_cmpR op_eq (pv 1) pe_int (nomark _)) (pss_one (ps_raise rfl (takes_of rfl rfl rfl rfl) (pmk_own0 PySem.F.excBase_ValueError Tz.xP Tz.gP Tz.kP (raises_own Tz.bP Tz.tP) rfl))) pss_nil)
      (pss_cons (ps_set (i := 2) sc_ratio.nd rfl (Or.inl rfl) (pe_callBfun cr_gcd rfl Tg.g_gcd (pa_cons (pv 0) (pa_cons (pv 1) pa_nil))))
      (pss_cons (ps_if (pt_cmpR op_lt (pv 1) pe_int (nomark _)) (pss_one (ps_set (i := 2) sc_ratio.nd rfl (Or.inl rfl) (pe_un un_neg (pv 2)))) pss_nil)
      (pss_one (ps_ret (pe_tup (pa_cons (pe_op op_fdivWN (pv 0) (pv 2)) (pa_cons (pe_op op_fdivWN (pv 1) (pv 2)) pa_nil)))))))), ?_⟩
    refine ⟨_, rfl, rfl, _, rfl, ?_⟩
    refine ite2 (fun c => ?_) (fun c => ?_)
    · have e : m = 0 := by
        have z := of_decide_eq_true c
        injection z
      exact q2 e
    · have e : m ≠ 0 := fun z => c (by rw [z]; rfl)
      refine ⟨_, rfl, _, rfl, _, _, rfl, ?_⟩
      have g0 : (Int.gcd t m : Int) = ((Nat.gcd t.natAbs m.natAbs : Nat) : Int) := rfl
      rw [← g0]
      have gp := gcd_pos (t := t) e
      have gl := hB e
      refine ⟨_, rfl, _, _, rfl, rfl, _, rfl, ?_⟩
      refine ite2 (fun c2 => ?_) (fun c2 => ?_)
      · have c3 : m < 0 := of_decide_eq_true c2
        refine ⟨_, rfl, _, rfl, ?_⟩
        refine ⟨_, rfl, _, rfl, _, _, rfl, rfl, ⟨by omega, by rw [Int.natAbs_neg]; exact gl⟩, _, rfl, _, rfl, _, _, rfl, rfl, ⟨by omega, by rw [Int.natAbs_neg]; exact gl⟩, (by show 2 ≤ sizeLine; decide), fun p np => ?_⟩
        refine q1 e p _ (same_new np _) ?_
        rw [upd_same, ← nt_neg c3 gp, ← nb_neg c3 gp]
      · have c3 : ¬ m < 0 := of_decide_eq_false (Bool.eq_false_iff.mpr c2)
        refine ⟨_, rfl, _, rfl, _, _, rfl, rfl, ⟨by omega, gl⟩, _, rfl, _, rfl, _, _, rfl, rfl, ⟨by omega, gl⟩, (by show 2 ≤ sizeLine; decide), fun p np => ?_⟩
        refine q1 e p _ (same_new np _) ?_
        rw [upd_same, ← nt_pos c3 gp, ← nb_pos c3 gp]
end

/-! ### the law's own draws and checks -/
theorem map_get {ns : List Int} {i : Nat} {x : V} (h : (ns.map V.int)[i]? = some x) : ∃ z, ns[i]? = some z ∧ x = V.int z := by
  rw [List.getElem?_map] at h
  cases e : ns[i]? with
  | none =>
    rw [e] at h
    cases h
  | some z =>
    rw [e] at h
    exact ⟨z, rfl, (Option.some.inj h).symm⟩
theorem take_more {α : Type} : ∀ {l : List α} {i : Nat} {x : α}, l[i]? = some x → l.take (i + 1) = l.take i ++ [x]
  | [], i, x, h => by simp at h
  | a :: l, 0, x, h => by
    have e := Option.some.inj h
    subst e
    rfl
  | a :: l, i + 1, x, h => congrArg (a :: ·) (take_more (l := l) (i := i) h)
theorem same_upd {H H1 : Hp} {D : Addr} {o : HO} (s : Same H H1) (h : H D = none) : Same H (upd H1 D o) := fun b u q => by
  rw [upd_ne (ne_of_none q h)]
  exact s _ _ q
theorem get_lt {α : Type} {l : List α} {i : Nat} {x : α} (h : l[i]? = some x) : i < l.length := (List.getElem?_eq_some_iff.mp h).1
/-- an item of a list at a drawn place -/
theorem at_lt {xs : List V} {r : Int} (h0 : 0 ≤ r) (h1 : r < xs.length) : ∃ v, v ∈ xs ∧ atI xs r = some v := by
  obtain ⟨k, rfl⟩ : ∃ k : Nat, r = (k : Int) := ⟨r.toNat, by omega⟩
  have hk : k < xs.length := by omega
  exact ⟨xs[k], List.getElem_mem hk, atI_nat (List.getElem?_eq_getElem hk)⟩
def mk (b g : Addr) (H : Hp) : Hp := fun a => if a = b ∨ a = g then none else H a
theorem mk_sub (b g : Addr) (H : Hp) : Same (mk b g H) H := fun a o h => by
  unfold mk at h
  split at h
  · cases h
  · exact h
theorem mk_but {b g : Addr} {H H' : Hp} (x : But b g H H') : Same (mk b g H) (mk b g H') := fun a o h => by
  unfold mk at h ⊢
  split at h
  · cases h
  · rename_i z
    rw [if_neg z]
    exact x a o h (fun y => z (.inl y)) (fun y => z (.inr y))
theorem mk_new {H : Hp} {b g c p : Addr} {n : Nat} {o : HO} (B : Box H b g c n) (np : H p = none) : mk b g (upd H p o) p = some o := by
  obtain ⟨gs, cs, cur, m, B, _⟩ := B
  unfold mk
  rw [if_neg (fun y => y.elim (fun e => by rw [e, B.hb] at np; cases np) (fun e => by rw [e, B.hg] at np; cases np)), upd_same]
theorem mk_tup {H : Hp} {b g c p : Addr} {n : Nat} {xs : List V} (B : Box H b g c n) (h : H p = some (.tup xs)) : mk b g H p = some (.tup xs) := by
  obtain ⟨gs, cs, cur, m, B, _⟩ := B
  unfold mk
  rw [if_neg (fun y => y.elim (fun e => by rw [e, B.hb] at h; cases h) (fun e => by rw [e, B.hg] at h; cases h)), h]
theorem But.tup {H H' : Hp} {b g c p : Addr} {n : Nat} {xs : List V} (x : But b g H H') (B : Box H b g c n) (h : H p = some (.tup xs)) : H' p = some (.tup xs) := by
  obtain ⟨gs, cs, cur, m, B, _⟩ := B
  exact x p _ h (fun e => by rw [e, B.hb] at h; cases h) (fun e => by rw [e, B.hg] at h; cases h)
def spLRatio : Sp := fun vs H Q _ => ∃ t m : Int, vs = [.int t, .int m] ∧ m ≠ 0 ∧ m.natAbs < 2 ^ 8000 ∧ ∀ p H', Same H H' → H' p = some (.tup [.int (nt t m), .int (nb t m)]) → Q (.ref p) H'
section
variable {P : Program} {w : World} {K : PySem.W.Frag} {mg : Str → Option Value} {base : Heap}
theorem ok_box (D : Df K mg "_law_box" s_l_box ["_law_script"]) : Kn P w K mg base CX0 "_law_box" 1 ["_law_script"] (spBox K) := by
  obtain ⟨f, fd, F, hm, hb⟩ := D
  refine ⟨f, fd, F.ok sc_l_box (fun vs H Q E h => ?_) (fun cdv A outer s H vs Q E hr h => ?_), hm, F.kp, hb⟩
  · obtain ⟨a, ns, rfl, _⟩ := h
    rfl
  · obtain ⟨a, ns, rfl, hS, hl, q⟩ := h
    refine ⟨_, (pss_cons (ps_setLc (i := 1) (own := [("_law_cell", 2)]) rfl sc_l_box.nd rfl rfl (sw_true rfl rfl rfl (by decide +kernel)) (pi_list (pv 0)) (blkOk_by (N := ["_law_script", "_law_great", "_law_cell"]) (sc := defScope s_l_box) (by decide +kernel)) (fun _ _ _ _ _ => (pg_name (i := 2) sc_l_box.nd rfl (Or.inl rfl))) (fun _ _ _ _ _ => (pts_one (pt_cmpR op_ge (pv 2) (pe_op op_powB pe_int pe_int) (nomark _)))) (fun _ _ _ _ _ => (pv 2)))
      (pss_one (ps_ret (pe_lst (pa_cons (pv 1) (pa_cons pe_int (pa_cons (pe_lc (own := [("_law_cell", 2)]) rfl sc_l_box.nd (pi_list (pv 0)) (blkOk_by (N := ["_law_script", "_law_great", "_law_cell"]) (sc := defScope s_l_box) (by decide +kernel)) (fun _ _ _ _ _ => (pg_name (i := 2) sc_l_box.nd rfl (Or.inl rfl))) (fun _ _ _ _ _ => (pts_one (pt_cmpR op_lt (pv 2) (pe_op op_powB pe_int pe_int) (nomark _)))) (fun _ _ _ _ _ => (pv 2))) (pa_cons pe_int pa_nil)))))))), ?_⟩
    refine ⟨_, rfl, a, rfl, ⟨_, hS⟩, fun D hD => ?_⟩
    refine lc_list (K := K) (a := a) (xs := ns.map V.int) (fun i H' => Same H H' ∧ ∃ acc : List Int, H' D = some (.lst (acc.map V.int)) ∧ acc.length ≤ i) ⟨same_new hD _, [], upd_same, Nat.le_refl _⟩ (fun i H' _ h => h.1.seq hS) ?_ ?_
    · rintro i x H1 hx ⟨s1, acc, hacc, hlen⟩
      obtain ⟨z, hz, rfl⟩ := map_get hx
      have hi := get_lt hz
      refine ⟨rfl, _, rfl, _, _, rfl, rfl, ⟨by decide, by decide +kernel⟩, _, _, rfl, rfl, _, rfl, ?_⟩
      refine ite2 (fun _ => ?_) (fun _ => ?_)
      · refine ⟨_, rfl, _, hacc, (by rw [List.length_map]; exact small1000 (by omega)), same_upd s1 hD, acc ++ [z], (by rw [upd_same, List.map_append]; rfl), by rw [List.length_append]; exact Nat.succ_le_succ hlen⟩
      · exact ⟨s1, acc, hacc, by omega⟩
    · rintro H1 ⟨s1, gs, hg, hgl⟩
      rw [List.length_map] at hgl
      refine ⟨_, rfl, _, rfl, a, rfl, ⟨_, s1.seq hS⟩, fun D2 hD2 => ?_⟩
      refine lc_list (K := K) (a := a) (xs := ns.map V.int) (fun i H' => Same H1 H' ∧ ∃ acc : List Int, H' D2 = some (.lst (acc.map V.int)) ∧ acc.length ≤ i) ⟨same_new hD2 _, [], upd_same, Nat.le_refl _⟩ (fun i H' _ h => (s1.trans h.1).seq hS) ?_ ?_
      · rintro i x H2 hx ⟨s2, acc, hacc, hlen⟩
        obtain ⟨z, hz, rfl⟩ := map_get hx
        have hi := get_lt hz
        refine ⟨rfl, _, rfl, _, _, rfl, rfl, ⟨by decide, by decide +kernel⟩, _, _, rfl, rfl, _, rfl, ?_⟩
        refine ite2 (fun _ => ?_) (fun _ => ?_)
        · refine ⟨_, rfl, _, hacc, (by rw [List.length_map]; exact small1000 (by omega)), same_upd s2 hD2, acc ++ [z], (by rw [upd_same, List.map_append]; rfl), by rw [List.length_append]; exact Nat.succ_le_succ hlen⟩
        · exact ⟨s2, acc, hacc, by omega⟩
      · rintro H2 ⟨s2, cs, hc, hcl⟩
        rw [List.length_map] at hcl
        refine ⟨(by show 4 ≤ sizeLine; decide), fun p np => ?_⟩
        have hg2 := s2 _ _ hg
        have n1 : p ≠ D := (ne_of_none hg2 np).symm
        have n2 : p ≠ D2 := (ne_of_none hc np).symm
        have n3 : D ≠ D2 := ne_of_none hg hD2
        refine q p D D2 _ ⟨gs, cs, 0, 0, ⟨upd_same, by rw [upd_ne n1.symm]; exact hg2, by rw [upd_ne n2.symm]; exact hc, n1, n2, n3, by decide, by omega, by omega⟩, by decide⟩ ((s1.trans s2).trans (same_new np _)) ((s1.trans s2).free np) hD (s1.free hD2)
theorem ok_lratio (GS : Kn P w K mg base CX0 "_law_shared" 1 ["_law_one", "_law_other"] spShared) (D : Df K mg "_law_ratio" s_l_ratio ["_law_top", "_law_bottom"]) : Kn P w K mg base CX0 "_law_ratio" 2 ["_law_top", "_law_bottom"] spLRatio := by
  obtain ⟨f, fd, F, hm, hb⟩ := D
  obtain ⟨f_l_shared, fd_l_shared, G_l_shared, m_l_shared, k_l_shared, b_l_shared⟩ := GS
  refine ⟨f, fd, F.ok sc_l_ratio (fun vs H Q E h => ?_) (fun cdv A outer s H vs Q E hr h => ?_), hm, F.kp, hb⟩
  · obtain ⟨t, m, rfl, _⟩ := h
    rfl
  · obtain ⟨t, m, rfl, h0, hB, q⟩ := h
    refine ⟨_, (C8.pss_cut (ps_if (pt_cmpR op_lt (pv 1) pe_int (nomark _)) (pss_one (ps_par (i := 0) (j := 1) (by rfl) sc_l_ratio.nd rfl rfl (by decide) rfl rfl (pa_cons (pe_op op_sub pe_int (pv 0)) (pa_cons (pe_op op_sub pe_int (pv 1)) pa_nil)) (by rfl))) pss_nil)
      (pss_cons (ps_set (i := 2) sc_l_ratio.nd rfl (Or.inl rfl) (pe_call G_l_shared (hr.mono (by omega)) rfl m_l_shared k_l_shared b_l_shared .nil pass0 (pa_cons (pv 0) (pa_cons (pv 1) pa_nil))))
      (pss_one (ps_ret (pe_tup (pa_cons (pe_op op_fdivW (pv 0) (pv 2)) (pa_cons (pe_op op_fdivW (pv 1) (pv 2)) pa_nil))))))), ?_⟩
    refine ⟨fun σ H' => H' = H ∧ σ = [some (.int (if m < 0 then -t else t)), some (.int (m.natAbs : Int)), none], ?_, ?_⟩
    · refine ⟨_, rfl, _, _, rfl, rfl, _, rfl, ?_⟩
      refine ite2 (fun c => ?_) (fun c => ?_)
      · have c3 : m < 0 := of_decide_eq_true c
        refine ⟨_, rfl, _, _, rfl, rfl, _, rfl, _, _, rfl, rfl, _, _, rfl, rfl, ?_⟩
        rw [if_pos c3, show -t = 0 - t by omega, show (m.natAbs : Int) = 0 - m by omega]
        rfl
      · have c3 : ¬ m < 0 := of_decide_eq_false (Bool.eq_false_iff.mpr c)
        refine ⟨rfl, ?_⟩
        rw [if_neg c3, show (m.natAbs : Int) = m by omega]
        rfl
    · rintro σ H' ⟨rfl, rfl⟩
      have e : (Int.gcd (if m < 0 then -t else t) (m.natAbs : Int) : Int) = (Int.gcd t m : Int) := by
        unfold Int.gcd
        split <;> simp
      refine ⟨_, rfl, _, rfl, _, _, rfl, ?_⟩
      rw [e]
      have gp := gcd_pos (t := t) h0
      have gB : (Int.gcd t m : Int).natAbs < 2 ^ 8000 := Nat.lt_of_le_of_lt (gcd_le h0) hB
      refine ⟨_, rfl, _, rfl, _, _, rfl, rfl, wide_div gp gB (by decide) (by decide), _, rfl, _, rfl, _, _, rfl, rfl, wide_div gp gB (by decide) (by decide), (by show 2 ≤ sizeLine; decide), fun p np => ?_⟩
      exact q p _ (same_new np _) upd_same
end

/-! ### ratios in lowest terms -/
structure Red (z : Int × Int) : Prop where
  pos : 0 < z.2
  co : Int.gcd z.1 z.2 = 1
def nrm (t m : Int) : Int × Int := (nt t m, nb t m)
theorem gcd_abs (t m : Int) : Int.gcd (if m < 0 then -t else t) (m.natAbs : Int) = Int.gcd t m := by
  unfold Int.gcd
  split <;> simp
theorem nrm_red {t m : Int} (h : m ≠ 0) : Red (nrm t m) := by
  have gp := gcd_pos (t := t) h
  have e := gcd_abs t m
  refine ⟨?_, ?_⟩
  · show 0 < (m.natAbs : Int) / (Int.gcd t m : Int)
    have d : (Int.gcd t m : Int) ∣ (m.natAbs : Int) := Int.natAbs_dvd_natAbs.mp (by simp [Int.gcd]; exact Nat.gcd_dvd_right _ _)
    have c := Int.ediv_mul_cancel d
    have z : (m.natAbs : Int) / (Int.gcd t m : Int) ≠ 0 := fun q => by
      rw [q] at c
      omega
    have z2 : 0 ≤ (m.natAbs : Int) / (Int.gcd t m : Int) := Int.ediv_nonneg (by omega) (by omega)
    omega
  · show Int.gcd ((if m < 0 then -t else t) / (Int.gcd t m : Int)) ((m.natAbs : Int) / (Int.gcd t m : Int)) = 1
    rw [← e]
    exact Int.gcd_ediv_gcd_ediv_gcd (by rw [e]; omega)
theorem nrm_cross {t m : Int} (h : m ≠ 0) : (nrm t m).1 * m = t * (nrm t m).2 := by
  have d1 : (Int.gcd t m : Int) ∣ t := Int.gcd_dvd_left ..
  have d2 : (Int.gcd t m : Int) ∣ m := Int.gcd_dvd_right ..
  obtain ⟨a, ha⟩ := d1
  obtain ⟨b, hb⟩ := d2
  have gp := gcd_pos (t := t) h
  have e1 : (nrm t m).1 = (if m < 0 then -a else a) := by
    show (if m < 0 then -t else t) / (Int.gcd t m : Int) = _
    generalize (Int.gcd t m : Int) = g at *
    subst ha
    split
    · rw [show -(g * a) = g * (-a) by grind, Int.mul_ediv_cancel_left _ (by omega)]
    · rw [Int.mul_ediv_cancel_left _ (by omega)]
  have e2 : (nrm t m).2 = (if m < 0 then -b else b) := by
    show (m.natAbs : Int) / (Int.gcd t m : Int) = _
    have z : (m.natAbs : Int) = if m < 0 then -m else m := by split <;> omega
    rw [z]
    clear z
    generalize (Int.gcd t m : Int) = g at *
    clear ha e1
    split
    · rw [hb, show -(g * b) = g * (-b) by grind, Int.mul_ediv_cancel_left _ (by omega)]
    · rw [hb, Int.mul_ediv_cancel_left _ (by omega)]
  rw [e1, e2]
  generalize (Int.gcd t m : Int) = g at *
  split <;> (rename_i w; clear e1 e2 w h gp; subst ha; subst hb; grind)
theorem red_uniq {a b : Int × Int} (ha : Red a) (hb : Red b) (e : a.1 * b.2 = b.1 * a.2) : a = b := by
  have pa := ha.pos
  have pb := hb.pos
  have e' : a.1.natAbs * b.2.natAbs = b.1.natAbs * a.2.natAbs := by rw [← Int.natAbs_mul, ← Int.natAbs_mul, e]
  have c1 : Nat.Coprime a.2.natAbs a.1.natAbs := Nat.Coprime.symm ha.co
  have c2 : Nat.Coprime b.2.natAbs b.1.natAbs := Nat.Coprime.symm hb.co
  have d1 : a.2.natAbs ∣ b.2.natAbs := c1.dvd_of_dvd_mul_left ⟨b.1.natAbs, by rw [e', Nat.mul_comm]⟩
  have d2 : b.2.natAbs ∣ a.2.natAbs := c2.dvd_of_dvd_mul_left ⟨a.1.natAbs, by rw [← e', Nat.mul_comm]⟩
  have e2 : a.2 = b.2 := by
    have z := Nat.dvd_antisymm d1 d2
    omega
  have e1 : a.1 = b.1 := Int.eq_of_mul_eq_mul_right (a := b.2) (by omega) (by rw [e, e2])
  exact Prod.ext e1 e2
theorem nrm_eq {t m t' m' : Int} (h : m ≠ 0) (h' : m' ≠ 0) (e : t * m' = t' * m) : nrm t m = nrm t' m' := by
  have x := nrm_cross (t := t) h
  have y := nrm_cross (t := t') h'
  refine red_uniq (nrm_red h) (nrm_red h') ?_
  refine Int.eq_of_mul_eq_mul_right (a := m * m') (Int.mul_ne_zero h h') ?_
  generalize (nrm t m).1 = a at *
  generalize (nrm t m).2 = b at *
  generalize (nrm t' m').1 = c at *
  generalize (nrm t' m').2 = d at *
  clear h h'
  grind
theorem nrm_of {z : Int × Int} (h : Red z) : nrm z.1 z.2 = z := by
  have p := h.pos
  have x := nrm_cross (t := z.1) (m := z.2) (by omega)
  exact red_uniq (nrm_red (by omega)) h x
theorem nrm_is {t m : Int} {z : Int × Int} (h : m ≠ 0) (hz : Red z) (e : t * z.2 = z.1 * m) : nrm t m = z := by
  have p := hz.pos
  rw [← nrm_of hz]
  exact nrm_eq h (by omega) e
theorem nt_le (t m : Int) : (nrm t m).1.natAbs ≤ t.natAbs := by
  show ((if m < 0 then -t else t) / (Int.gcd t m : Int)).natAbs ≤ t.natAbs
  refine Nat.le_trans (Int.natAbs_ediv_le_natAbs _ _) ?_
  split <;> omega
theorem nb_le (t m : Int) : (nrm t m).2.natAbs ≤ m.natAbs := by
  show ((m.natAbs : Int) / (Int.gcd t m : Int)).natAbs ≤ m.natAbs
  exact Nat.le_trans (Int.natAbs_ediv_le_natAbs _ _) (by omega)
/-- both parts are below 2 ^ k -/
def Sz (k : Nat) (z : Int × Int) : Prop := z.1.natAbs < 2 ^ k ∧ z.2.natAbs < 2 ^ k
theorem Sz.mono {j k : Nat} {z : Int × Int} (h : Sz j z) (l : j ≤ k) : Sz k z :=
  ⟨Nat.lt_of_lt_of_le h.1 (Nat.pow_le_pow_right (by decide) l), Nat.lt_of_lt_of_le h.2 (Nat.pow_le_pow_right (by decide) l)⟩
theorem sz_nrm {t m : Int} {k : Nat} (h1 : t.natAbs < 2 ^ k) (h2 : m.natAbs < 2 ^ k) : Sz k (nrm t m) := ⟨Nat.lt_of_le_of_lt (nt_le t m) h1, Nat.lt_of_le_of_lt (nb_le t m) h2⟩
theorem lt_mul {x y : Int} {j k : Nat} (h1 : x.natAbs < 2 ^ j) (h2 : y.natAbs < 2 ^ k) : (x * y).natAbs < 2 ^ (j + k) := wide_lt h1 h2
theorem lt_add {x y : Int} {k : Nat} (h1 : x.natAbs < 2 ^ k) (h2 : y.natAbs < 2 ^ k) : (x + y).natAbs < 2 ^ (k + 1) := by
  have := Int.natAbs_add_le x y
  rw [Nat.pow_succ]
  omega
def addz (a b : Int × Int) : Int × Int := nrm (a.1 * b.2 + b.1 * a.2) (a.2 * b.2)
def mulz (a b : Int × Int) : Int × Int := nrm (a.1 * b.1) (a.2 * b.2)
def negz (a : Int × Int) : Int × Int := (-a.1, a.2)
def divz (a b : Int × Int) : Int × Int := nrm (a.1 * b.2) (a.2 * b.1)
theorem mne {a b : Int × Int} (ha : Red a) (hb : Red b) : a.2 * b.2 ≠ 0 := by
  have := ha.pos
  have := hb.pos
  exact Int.mul_ne_zero (by omega) (by omega)
theorem add_red {a b : Int × Int} (ha : Red a) (hb : Red b) : Red (addz a b) := nrm_red (mne ha hb)
theorem mul_red {a b : Int × Int} (ha : Red a) (hb : Red b) : Red (mulz a b) := nrm_red (mne ha hb)
theorem neg_red {a : Int × Int} (ha : Red a) : Red (negz a) := ⟨ha.pos, by show Int.gcd (-a.1) a.2 = 1; rw [Int.neg_gcd]; exact ha.co⟩
theorem add_sz {a b : Int × Int} {j k : Nat} (ha : Sz j a) (hb : Sz k b) : Sz (j + k + 1) (addz a b) := by
  refine sz_nrm (lt_add (lt_mul ha.1 hb.2) ?_) (Nat.lt_of_lt_of_le (lt_mul ha.2 hb.2) (Nat.pow_le_pow_right (by decide) (by omega)))
  rw [Int.mul_comm]
  exact lt_mul ha.2 hb.1
theorem mul_sz {a b : Int × Int} {j k : Nat} (ha : Sz j a) (hb : Sz k b) : Sz (j + k) (mulz a b) := sz_nrm (lt_mul ha.1 hb.1) (lt_mul ha.2 hb.2)
theorem neg_sz {a : Int × Int} {j : Nat} (ha : Sz j a) : Sz j (negz a) := ⟨by show (-a.1).natAbs < _; rw [Int.natAbs_neg]; exact ha.1, ha.2⟩
theorem add_cross {a b : Int × Int} (ha : Red a) (hb : Red b) : (addz a b).1 * (a.2 * b.2) = (a.1 * b.2 + b.1 * a.2) * (addz a b).2 := nrm_cross (mne ha hb)
theorem mul_cross {a b : Int × Int} (ha : Red a) (hb : Red b) : (mulz a b).1 * (a.2 * b.2) = (a.1 * b.1) * (mulz a b).2 := nrm_cross (mne ha hb)
theorem cancel {x y k : Int} (h : k ≠ 0) (e : x * k = y * k) : x = y := Int.eq_of_mul_eq_mul_right h e
theorem add_comm' (a b : Int × Int) : addz a b = addz b a := by
  unfold addz
  rw [Int.add_comm, Int.mul_comm a.2]
theorem mul_comm' (a b : Int × Int) : mulz a b = mulz b a := by
  unfold mulz
  rw [Int.mul_comm a.1, Int.mul_comm a.2]
theorem add_assoc' {a b c : Int × Int} (ha : Red a) (hb : Red b) (hc : Red c) : addz (addz a b) c = addz a (addz b c) := by
  have x := add_cross ha hb
  have y := add_cross hb hc
  have na := mne ha hb
  have nc := mne hb hc
  have rab := add_red ha hb
  have rbc := add_red hb hc
  refine nrm_eq (mne rab hc) (mne ha rbc) ?_
  refine cancel (k := (a.2 * b.2) * (b.2 * c.2)) (Int.mul_ne_zero na nc) ?_
  generalize addz a b = u at *
  generalize addz b c = v at *
  clear na nc rab rbc ha hb hc
  grind
theorem mul_assoc' {a b c : Int × Int} (ha : Red a) (hb : Red b) (hc : Red c) : mulz (mulz a b) c = mulz a (mulz b c) := by
  have x := mul_cross ha hb
  have y := mul_cross hb hc
  have na := mne ha hb
  have nc := mne hb hc
  have rab := mul_red ha hb
  have rbc := mul_red hb hc
  refine nrm_eq (mne rab hc) (mne ha rbc) ?_
  refine cancel (k := (a.2 * b.2) * (b.2 * c.2)) (Int.mul_ne_zero na nc) ?_
  generalize mulz a b = u at *
  generalize mulz b c = v at *
  clear na nc rab rbc ha hb hc
  grind
theorem mul_add' {a b c : Int × Int} (ha : Red a) (hb : Red b) (hc : Red c) : mulz (addz a b) c = addz (mulz a c) (mulz b c) := by
  have x := add_cross ha hb
  have y := mul_cross ha hc
  have z := mul_cross hb hc
  have n1 := mne ha hb
  have n2 := mne ha hc
  have n3 := mne hb hc
  refine nrm_eq (mne (add_red ha hb) hc) (mne (mul_red ha hc) (mul_red hb hc)) ?_
  refine cancel (k := (a.2 * b.2) * ((a.2 * c.2) * (b.2 * c.2))) (Int.mul_ne_zero n1 (Int.mul_ne_zero n2 n3)) ?_
  generalize addz a b = u at *
  generalize mulz a c = v at *
  generalize mulz b c = w at *
  clear n1 n2 n3 ha hb hc
  grind
theorem add_sub' {a b : Int × Int} (ha : Red a) (hb : Red b) : addz (addz a b) (negz b) = a := by
  have x := add_cross ha hb
  have n1 := mne ha hb
  refine nrm_is (mne (add_red ha hb) (neg_red hb)) ha ?_
  refine cancel (k := a.2 * b.2) n1 ?_
  show ((addz a b).1 * b.2 + (-b.1) * (addz a b).2) * a.2 * (a.2 * b.2) = a.1 * ((addz a b).2 * b.2) * (a.2 * b.2)
  generalize addz a b = u at *
  clear n1 ha hb
  grind
theorem mul_div' {a b : Int × Int} (ha : Red a) (hb : Red b) (h0 : b.1 ≠ 0) : divz (mulz a b) b = a := by
  have x := mul_cross ha hb
  have n1 := mne ha hb
  have r := mul_red ha hb
  have p := r.pos
  refine nrm_is (Int.mul_ne_zero (by omega) h0) ha ?_
  refine cancel (k := a.2 * b.2) n1 ?_
  generalize mulz a b = u at *
  clear n1 ha hb r p h0
  grind
/-- the sign of a difference -/
def sgn (x : Int) : Int := if x < 0 then -1 else if x > 0 then 1 else 0
theorem sgn_nrm {t m : Int} (h : 0 < m) : sgn (nrm t m).1 = sgn t := by
  have x := nrm_cross (t := t) (m := m) (by omega)
  have r := (nrm_red (t := t) (m := m) (by omega)).pos
  generalize (nrm t m).1 = a at *
  generalize (nrm t m).2 = b at *
  unfold sgn
  rcases Int.lt_trichotomy t 0 with h1 | h1 | h1
  · have z : a < 0 := by
      rcases Int.lt_or_le a 0 with q | q
      · exact q
      · have := Int.mul_nonneg q (Int.le_of_lt h)
        have := Int.mul_neg_of_neg_of_pos h1 r
        omega
    rw [if_pos z, if_pos h1]
  · subst h1
    rw [Int.zero_mul] at x
    have z : a = 0 := by
      rcases Int.mul_eq_zero.mp x with q | q
      · exact q
      · omega
    rw [z]
  · have z : 0 < a := by
      rcases Int.lt_or_le 0 a with q | q
      · exact q
      · have := Int.mul_pos h1 r
        have := Int.mul_nonpos_of_nonpos_of_nonneg q (Int.le_of_lt h)
        omega
    rw [if_neg (by omega), if_pos z, if_neg (by omega), if_pos h1]
def cmpz (a b : Int × Int) : Int := sgn (a.1 * b.2 - b.1 * a.2)
theorem cmp_sub {a b : Int × Int} (ha : Red a) (hb : Red b) : sgn (addz a (negz b)).1 = cmpz a b := by
  have p1 := ha.pos
  have p2 := hb.pos
  unfold cmpz
  have e : a.1 * b.2 - b.1 * a.2 = a.1 * (negz b).2 + (negz b).1 * a.2 := by show a.1 * b.2 - b.1 * a.2 = a.1 * b.2 + (-b.1) * a.2; grind
  rw [e]
  exact sgn_nrm (m := a.2 * (negz b).2) (Int.mul_pos p1 p2)
theorem sgn_neg (x : Int) : sgn x = 0 - sgn (-x) := by
  unfold sgn
  split <;> split <;> (try split) <;> (try split) <;> omega
theorem cmp_neg (a b : Int × Int) : cmpz a b = 0 - cmpz b a := by
  unfold cmpz
  rw [sgn_neg, show -(a.1 * b.2 - b.1 * a.2) = b.1 * a.2 - a.1 * b.2 by grind]
theorem cmp_same (a : Int × Int) : cmpz a a = 0 := by
  unfold cmpz
  rw [Int.sub_self]
  rfl
theorem cmp_up {a : Int × Int} {s : Int} (ha : Red a) (hs : Red (1, s)) : cmpz a (addz a (1, s)) = -1 := by
  have x := add_cross ha hs
  have r := (add_red ha hs).pos
  have p1 := ha.pos
  have p2 : 0 < s := hs.pos
  unfold cmpz
  have x' : (addz a (1, s)).1 * (a.2 * s) = (a.1 * s + 1 * a.2) * (addz a (1, s)).2 := x
  generalize addz a (1, s) = u at *
  have key : (a.1 * u.2 - u.1 * a.2) * s = - (a.2 * u.2) := by
    refine cancel (k := 1) (by decide) ?_
    clear x hs ha
    grind
  have neg : a.1 * u.2 - u.1 * a.2 < 0 := by
    rcases Int.lt_or_le (a.1 * u.2 - u.1 * a.2) 0 with q | q
    · exact q
    · have z1 := Int.mul_nonneg q (Int.le_of_lt p2)
      have z2 := Int.mul_pos p1 r
      omega
  unfold sgn
  rw [if_pos neg]

/-- a number: an int or a ratio -/
def Nv (K : PySem.W.Frag) (H : Hp) (v : V) (z : Int × Int) : Prop := ∃ d, Dp K H v d ∧ numOf d = some z
theorem Nv.same {K : PySem.W.Frag} {H H' : Hp} {v : V} {z : Int × Int} (h : Nv K H v z) (s : Same H H') : Nv K H' v z := by
  obtain ⟨d, hd, e⟩ := h
  exact ⟨d, dp_same s _ _ hd, e⟩
theorem Nv.int {K : PySem.W.Frag} {H : Hp} (i : Int) : Nv K H (.int i) (i, 1) := ⟨.int i, .int i, rfl⟩
theorem numOf_rat {z : Int × Int} (h : Red z) : numOf (rat z.1 z.2) = some z := by
  show (if 1 ≤ z.2 ∧ Int.gcd z.1 z.2 = 1 then some (z.1, z.2) else none) = some z
  have := h.pos
  rw [if_pos ⟨by omega, h.co⟩]
theorem Nv.rat {K : PySem.W.Frag} {H : Hp} {p : Addr} {z : Int × Int} (h : H p = some (.tup [.int z.1, .int z.2])) (r : Red z) : Nv K H (.ref p) z := ⟨_, dp_rat h, numOf_rat r⟩
theorem numOf_red {d : PyData} {z : Int × Int} (h : numOf d = some z) : Red z := by
  have key : ∀ d', ratOf d' = some z → Red z := fun d' h' => by
    have e := ratOf_is h'
    rw [e] at h'
    have h2 : (if 1 ≤ z.2 ∧ Int.gcd z.1 z.2 = 1 then some (z.1, z.2) else none) = some z := h'
    split at h2
    · rename_i w
      exact ⟨by omega, w.2⟩
    · cases h2
  cases d with
  | int i =>
    have e : (i, (1 : Int)) = z := Option.some.inj h
    rw [← e]
    exact ⟨by show (0 : Int) < 1; decide, by show Int.gcd i 1 = 1; exact Int.gcd_one_right i⟩
  | none => exact key .none h
  | bool b => exact key (.bool b) h
  | str b => exact key (.str b) h
  | list b => exact key (.list b) h
  | tuple b => exact key (.tuple b) h
  | dict b => exact key (.dict b) h
theorem Nv.red {K : PySem.W.Frag} {H : Hp} {v : V} {z : Int × Int} (h : Nv K H v z) : Red z := by
  obtain ⟨d, _, e⟩ := h
  exact numOf_red e
theorem dp_rat_inv {K : PySem.W.Frag} {H : Hp} {v : V} {t m : Int} (h : Dp K H v (rat t m)) : ∃ a, v = .ref a ∧ SqT K H a [.int t, .int m] := by
  cases h with
  | tup hs ha =>
    cases ha with
    | cons h1 h2 =>
      cases h2 with
      | cons h2 h3 =>
        cases h3
        cases h1
        cases h2
        exact ⟨_, rfl, hs⟩
def spBin (K : PySem.W.Frag) (f : Int × Int → Int × Int → Int × Int) : Sp := fun vs H Q _ => ∃ (x y : V) (a b : Int × Int) (j k : Nat), vs = [x, y] ∧ Nv K H x a ∧ Nv K H y b ∧ Sz j a ∧ Sz k b ∧ j + k + 1 ≤ 7000 ∧
  ∀ p H', Same H H' → H' p = some (.tup [.int (f a b).1, .int (f a b).2]) → Q (.ref p) H'
def spDiv (K : PySem.W.Frag) (C : Addr) : Sp := fun vs H Q E => ∃ (x y : V) (a b : Int × Int) (j k : Nat), vs = [x, y] ∧ Nv K H x a ∧ Nv K H y b ∧ Sz j a ∧ Sz k b ∧ j + k + 1 ≤ 7000 ∧
  (b.1 ≠ 0 → ∀ p H', Same H H' → H' p = some (.tup [.int (divz a b).1, .int (divz a b).2]) → Q (.ref p) H') ∧ (b.1 = 0 → ∀ H', Same H H' → E (.ref C) none H')
def spSub (K : PySem.W.Frag) : Sp := fun vs H Q _ => ∃ (x y : V) (a b : Int × Int) (j k : Nat), vs = [x, y] ∧ Nv K H x a ∧ Nv K H y b ∧ Sz j a ∧ Sz k b ∧ j + k + 2 ≤ 7000 ∧
  ∀ p H', Same H H' → H' p = some (.tup [.int (addz a (negz b)).1, .int (addz a (negz b)).2]) → Q (.ref p) H'
def spCmp (K : PySem.W.Frag) : Sp := fun vs H Q _ => ∃ (x y : V) (a b : Int × Int) (j k : Nat), vs = [x, y] ∧ Nv K H x a ∧ Nv K H y b ∧ Sz j a ∧ Sz k b ∧ j + k + 2 ≤ 7000 ∧ ∀ H', Same H H' → Q (.int (cmpz a b)) H'
theorem p2pos (k : Nat) (h : 0 < k) {x : Int} (hx : x.natAbs < 2 ^ k) : x.natAbs < 2 ^ k := hx
theorem Sz.pos {k : Nat} {z : Int × Int} (h : Sz k z) (r : Red z) : 0 < k := by
  have p := r.pos
  have q := h.2
  cases k with
  | zero => simp at q; omega
  | succ n => exact Nat.succ_pos _
theorem mulW_of {x y : Int} {j k : Nat} (hx : x.natAbs < 2 ^ j) (hy : y.natAbs < 2 ^ k) (j0 : 0 < j) (k0 : 0 < k) (l : j + k + 1 ≤ 7000) : CMulW x y := wide_mul hx hy j0 k0 (by omega)
theorem to8000 {x : Int} {k : Nat} (h : x.natAbs < 2 ^ k) (l : k ≤ 7999) : x.natAbs < 2 ^ 8000 := Nat.lt_of_lt_of_le h (Nat.pow_le_pow_right (by decide) (by omega))

/-! ### the law's drawn numbers -/
theorem But.new {H H' : Hp} {b g c p : Addr} {n : Nat} {o : HO} (B : Box H b g c n) (np : H p = none) (x : But b g (upd H p o) H') : H' p = some o := by
  obtain ⟨gs, cs, cur, m, B, _⟩ := B
  exact x p o upd_same (fun e => by rw [e, B.hb] at np; cases np) (fun e => by rw [e, B.hg] at np; cases np)
theorem But.after {H H' : Hp} {b g p : Addr} {o : HO} (np : H p = none) (x : But b g (upd H p o) H') : But b g H H' := (But.of (same_new np o)).trans x
theorem at_pick {H : Hp} {p : Addr} {xs : List V} {r k : Int} (_ : H p = some (.lst xs)) (r0 : 0 ≤ r) (r1 : r < k) (hk : (xs.length : Int) = k) : ∃ v, v ∈ xs ∧ atI xs r = some v := at_lt r0 (by omega)
theorem pow8000 (k : Nat) (h : k < 8000) : 2 ^ k < 2 ^ 8000 := Nat.pow_lt_pow_right (by decide) h
theorem pow8000' (j : Int) (k : Nat) (h : k < 8000) (h2 : j.natAbs < 2 ^ k) : j.natAbs < 2 ^ 8000 := Nat.lt_trans h2 (pow8000 k h)
/-- a drawn number: a new tuple in lowest terms -/
def spNumK (sz cost : Nat) : Sp := fun vs H Q _ => ∃ (b g c : Addr) (n : Nat), vs = [.ref b] ∧ Box H b g c n ∧ n + cost < 1000000 ∧
  ∀ (p : Addr) (z : Int × Int) (H' : Hp), Red z → Sz sz z → H' p = some (.tup [.int z.1, .int z.2]) → Box H' b g c (n + cost) → But b g H H' → Q (.ref p) H'
abbrev spNum (cost : Nat) : Sp := spNumK 700 cost
/-- a number as it is passed: the int where the bottom is 1, at times -/
def spGivenD (K : PySem.W.Frag) : Sp := fun vs H Q _ => ∃ (b g c : Addr) (v : V) (n : Nat) (z : Int × Int), vs = [.ref b, v] ∧ Box H b g c n ∧ n + 1 < 1000000 ∧ Dp K (mk b g H) v (rat z.1 z.2) ∧ Red z ∧
  ∀ (u : V) (H' : Hp), Nv K (mk b g H') u z → Box H' b g c (n + 1) → But b g H H' → Q u H'
def spGiven (K : PySem.W.Frag) : Sp := fun vs H Q _ => ∃ (b g c p : Addr) (n : Nat) (z : Int × Int), vs = [.ref b, .ref p] ∧ Box H b g c n ∧ n + 1 < 1000000 ∧ H p = some (.tup [.int z.1, .int z.2]) ∧ Red z ∧
  ∀ (v : V) (H' : Hp), Nv K (mk b g H') v z → Box H' b g c (n + 1) → But b g H H' → Q v H'
theorem red_one (t : Int) : Red (t, 1) := ⟨by show (0 : Int) < 1; decide, Int.gcd_one_right t⟩
theorem sz_of {z : Int × Int} {k : Nat} (h : Sz k z) (l : k ≤ 700) : Sz 700 z := h.mono l
section
variable {P : Program} {w : World} {K : PySem.W.Frag} {mg : Str → Option Value} {base : Heap}
theorem ok_number40 (GT : Kn P w K mg base CX0 "_law_take" 2 ["_law_box_here", "_law_size"] spTake) (GR : Kn P w K mg base CX0 "_law_ratio" 2 ["_law_top", "_law_bottom"] spLRatio) (D : Df K mg "_law_number" s_l_number ["_law_box_here"]) :
    Kn P w K mg base CX0 "_law_number" 3 ["_law_box_here"] (spNumK 40 6) := by
  obtain ⟨f, fd, F, hm, hb⟩ := D
  obtain ⟨f_l_take, fd_l_take, G_l_take, m_l_take, k_l_take, b_l_take⟩ := GT
  obtain ⟨f_l_ratio, fd_l_ratio, G_l_ratio, m_l_ratio, k_l_ratio, b_l_ratio⟩ := GR
  refine ⟨f, fd, F.ok sc_l_number (fun vs H Q E h => ?_) (fun cdv A outer s H vs Q E hr h => ?_), hm, F.kp, hb⟩
  · obtain ⟨b, g, c, n, rfl, _⟩ := h
    rfl
  · obtain ⟨b, g, c, n, rfl, B, hn, q⟩ := h
    refine ⟨_, (pss_cons (ps_set (i := 1) sc_l_number.nd rfl (Or.inl rfl) (pe_call G_l_take (hr.mono (by omega)) rfl m_l_take k_l_take b_l_take .nil pass0 (pa_cons (pv 0) (pa_cons pe_int pa_nil))))
      (pss_cons (ps_if (pt_cmpR op_lt (pv 1) pe_int (nomark _)) (pss_one (ps_ret (pe_tup (pa_cons (pe_op op_sub (pe_call G_l_take (hr.mono (by omega)) rfl m_l_take k_l_take b_l_take .nil pass0 (pa_cons (pv 0) (pa_cons pe_int pa_nil))) pe_int) (pa_cons pe_int pa_nil))))) pss_nil)
      (pss_cons (ps_if (pt_cmpR op_lt (pv 1) pe_int (nomark _)) (pss_one (ps_ret (pe_call G_l_ratio (hr.mono (by omega)) rfl m_l_ratio k_l_ratio b_l_ratio .nil pass0 (pa_cons (pe_op op_sub (pe_call G_l_take (hr.mono (by omega)) rfl m_l_take k_l_take b_l_take .nil pass0 (pa_cons (pv 0) (pa_cons pe_int pa_nil))) pe_int) (pa_cons (pe_op op_add pe_int (pe_call G_l_take (hr.mono (by omega)) rfl m_l_take k_l_take b_l_take .nil pass0 (pa_cons (pv 0) (pa_cons pe_int pa_nil)))) pa_nil))))) pss_nil)
      (pss_cons (ps_set (i := 2) sc_l_number.nd rfl (Or.inl rfl) (pe_op op_mul (pe_call G_l_take (hr.mono (by omega)) rfl m_l_take k_l_take b_l_take .nil pass0 (pa_cons (pv 0) (pa_cons (pe_op op_powB pe_int pe_int) pa_nil))) (pe_ix ix_list (pe_lst (pa_cons pe_int (pa_cons (pe_un un_neg pe_int) pa_nil))) (pe_call G_l_take (hr.mono (by omega)) rfl m_l_take k_l_take b_l_take .nil pass0 (pa_cons (pv 0) (pa_cons pe_int pa_nil))) (fun _ _ => rfl))))
      (pss_one (ps_ret (pe_call G_l_ratio (hr.mono (by omega)) rfl m_l_ratio k_l_ratio b_l_ratio .nil pass0 (pa_cons (pv 2) (pa_cons (pe_ix ix_list (pe_lst (pa_cons pe_int (pa_cons (pe_op op_add pe_int (pe_call G_l_take (hr.mono (by omega)) rfl m_l_take k_l_take b_l_take .nil pass0 (pa_cons (pv 0) (pa_cons (pe_op op_sub (pe_op op_powB pe_int pe_int) pe_int) pa_nil)))) pa_nil))) (pe_call G_l_take (hr.mono (by omega)) rfl m_l_take k_l_take b_l_take .nil pass0 (pa_cons (pv 0) (pa_cons pe_int pa_nil))) (fun _ _ => rfl)) pa_nil))))))))), ?_⟩
    refine ⟨_, rfl, b, g, c, n, 10, rfl, B, by omega, by decide, pow8000' 10 4 (by decide) (by decide), fun way H1 w0 w1 B1 b1 => ?_⟩
    refine ⟨_, rfl, _, _, rfl, rfl, _, rfl, ?_⟩
    refine ite2 (fun _ => ?_) (fun _ => ?_)
    · refine ⟨_, rfl, b, g, c, _, 21, rfl, B1, by omega, by decide, pow8000' 21 5 (by decide) (by decide), fun x H2 x0 x1 B2 b2 => ?_⟩
      refine ⟨_, _, rfl, rfl, (by show 2 ≤ sizeLine; decide), fun p np => ?_⟩
      exact q p (x - 10, 1) _ (red_one _) (Sz.mono (j := 5) (k := 40) ⟨by show (x - 10).natAbs < 32; omega, by show (1 : Int).natAbs < 32; decide⟩ (by decide)) upd_same ((B2.same (same_new np _)).mono (by omega)) ((b1.trans b2).trans (But.of (same_new np _)))
    refine ⟨_, rfl, _, _, rfl, rfl, _, rfl, ?_⟩
    refine ite2 (fun _ => ?_) (fun _ => ?_)
    · refine ⟨_, rfl, b, g, c, _, 61, rfl, B1, by omega, by decide, pow8000' 61 6 (by decide) (by decide), fun x H2 x0 x1 B2 b2 => ?_⟩
      refine ⟨_, _, rfl, rfl, _, rfl, b, g, c, _, 12, rfl, B2, by omega, by decide, pow8000' 12 4 (by decide) (by decide), fun y H3 y0 y1 B3 b3 => ?_⟩
      refine ⟨_, _, rfl, rfl, x - 30, 1 + y, rfl, by omega, pow8000' (1 + y) 4 (by decide) (by show (1 + y).natAbs < 16; omega), fun p H4 s4 h4 => ?_⟩
      exact q p (nrm (x - 30) (1 + y)) _ (nrm_red (by omega)) (Sz.mono (j := 6) (k := 40) (sz_nrm (by show (x - 30).natAbs < 64; omega) (by show (1 + y).natAbs < 64; omega)) (by decide)) h4 ((B3.same s4).mono (by omega)) (((b1.trans b2).trans b3).trans (But.of s4))
    refine ⟨_, rfl, _, _, rfl, rfl, ⟨by decide, by decide +kernel⟩, b, g, c, _, _, rfl, B1, by omega, (by show (0 : Int) < 10 ^ 12; decide), pow8000' (10 ^ 12) 40 (by decide) (by decide), fun x H2 x0 x1 B2 b2 => ?_⟩
    have x2 : x < 10 ^ 12 := x1
    refine ⟨_, rfl, ?_⟩
    refine ⟨(by show 2 ≤ sizeLine; decide), fun p3 np3 => ⟨_, rfl, b, g, c, _, 2, rfl, B2.same (same_new np3 _), (by omega), (by decide), (by decide), fun r3 H3 r03 r13 B3 bt3 => ?_⟩⟩
    have hp3 := But.new B2 np3 bt3
    have bu3 := But.after np3 bt3
    obtain ⟨v3, hv3, hat3⟩ := at_pick hp3 r03 r13 rfl
    refine ⟨p3, _, r3, v3, rfl, rfl, SqL.of hp3, hat3, ?_⟩
    have hw : ∃ y : Int, v3 = .int y ∧ (y = 1 ∨ y = -1) := by
      simp only [List.mem_cons, List.not_mem_nil, or_false] at hv3
      rcases hv3 with e | e
      · exact ⟨_, e, .inl rfl⟩
      · exact ⟨_, e, .inr rfl⟩
    obtain ⟨y, rfl, hy⟩ := hw
    refine ⟨_, _, rfl, rfl, .inr ⟨by omega, by omega⟩, ?_⟩
    have hxy : (x * y).natAbs < 2 ^ 40 := by
      rcases hy with rfl | rfl
      · rw [Int.mul_one]
        omega
      · rw [Int.mul_neg, Int.mul_one]
        omega
    refine ⟨_, rfl, _, rfl, _, _, rfl, rfl, ⟨by decide, by decide +kernel⟩, _, _, rfl, rfl, b, g, c, _, _, rfl, B3, by omega, (by show (0 : Int) < 10 ^ 12 - 1; decide), pow8000' (10 ^ 12 - 1) 40 (by decide) (by decide), fun u H4 u0 u1 B4 b4 => ?_⟩
    have u2 : u < 10 ^ 12 - 1 := u1
    refine ⟨_, _, rfl, rfl, ?_⟩
    refine ⟨(by show 2 ≤ sizeLine; decide), fun p5 np5 => ⟨_, rfl, b, g, c, _, 2, rfl, B4.same (same_new np5 _), (by omega), (by decide), (by decide), fun r5 H5 r05 r15 B5 bt5 => ?_⟩⟩
    have hp5 := But.new B4 np5 bt5
    have bu5 := But.after np5 bt5
    obtain ⟨v5, hv5, hat5⟩ := at_pick hp5 r05 r15 rfl
    refine ⟨p5, _, r5, v5, rfl, rfl, SqL.of hp5, hat5, ?_⟩
    have hm : ∃ y : Int, v5 = .int y ∧ 0 < y ∧ y.natAbs < 2 ^ 40 := by
      simp only [List.mem_cons, List.not_mem_nil, or_false] at hv5
      rcases hv5 with e | e
      · exact ⟨_, e, by decide, by decide⟩
      · exact ⟨_, e, by show (0 : Int) < 1 + u; omega, by show (1 + u).natAbs < 2 ^ 40; omega⟩
    obtain ⟨m, rfl, m0, mB⟩ := hm
    refine ⟨x * y, m, rfl, by omega, pow8000' m 40 (by decide) mB, fun p H6 s6 h6 => ?_⟩
    exact q p (nrm (x * y) m) _ (nrm_red (by omega)) (Sz.mono (j := 40) (k := 40) (sz_nrm hxy mB) (by decide)) h6 ((B5.same s6).mono (by omega)) (((((b1.trans b2).trans bu3).trans b4).trans bu5).trans (But.of s6))
theorem ok_number (GT : Kn P w K mg base CX0 "_law_take" 2 ["_law_box_here", "_law_size"] spTake) (GR : Kn P w K mg base CX0 "_law_ratio" 2 ["_law_top", "_law_bottom"] spLRatio) (D : Df K mg "_law_number" s_l_number ["_law_box_here"]) :
    Kn P w K mg base CX0 "_law_number" 3 ["_law_box_here"] (spNum 6) := by
  obtain ⟨f, fd, F, a, b, c⟩ := ok_number40 GT GR D
  refine ⟨f, fd, F.imp fun vs H Q E h => ?_, a, b, c⟩
  obtain ⟨b, g, c, n, rfl, B, hn, q⟩ := h
  exact ⟨b, g, c, n, rfl, B, hn, fun p z H' r z40 hp B' b' => q p z H' r (z40.mono (by decide)) hp B' b'⟩
theorem ok_givenD (GT : Kn P w K mg base CX0 "_law_take" 2 ["_law_box_here", "_law_size"] spTake) (D : Df K mg "_law_given" s_l_given ["_law_box_here", "_law_number_here"]) :
    Kn P w K mg base CX0 "_law_given" 3 ["_law_box_here", "_law_number_here"] (spGivenD K) := by
  obtain ⟨f, fd, F, hm, hb⟩ := D
  obtain ⟨f_l_take, fd_l_take, G_l_take, m_l_take, k_l_take, b_l_take⟩ := GT
  refine ⟨f, fd, F.ok sc_l_given (fun vs H Q E h => ?_) (fun cdv A outer s H vs Q E hr h => ?_), hm, F.kp, hb⟩
  · obtain ⟨b, g, c, p, n, z, rfl, _⟩ := h
    rfl
  · obtain ⟨b, g, c, v, n, z, rfl, B, hn, hp, rz, q⟩ := h
    refine ⟨_, (pss_one (ps_ret (pe_ifExp (PW.pt (pw_and (pt_cmpR op_eq (pe_ix ix_tup (pv 1) pe_int (fun _ _ => rfl)) pe_int (nomark _)) (pw_and1 (pt_cmpR op_eq (pe_call G_l_take (hr.mono (by omega)) rfl m_l_take k_l_take b_l_take .nil pass0 (pa_cons (pv 0) (pa_cons pe_int pa_nil))) pe_int (nomark _))))) (pe_ix ix_tup (pv 1) pe_int (fun _ _ => rfl)) (pv 1)))), ?_⟩
    obtain ⟨p, rfl, hpM⟩ := dp_rat_inv hp
    have hp0 := same_seqT (mk_sub b g H) hpM
    refine ⟨_, rfl, p, _, _, .int z.2, rfl, rfl, hp0, rfl, rfl, _, rfl, ?_⟩
    refine ite2 (fun h1 => ?_) (fun _ => ?_)
    · have e : z.2 = 1 := by
        have y := of_decide_eq_true h1
        injection y
      refine ⟨_, rfl, b, g, c, n, 2, rfl, B, by omega, by decide, pow8000' 2 2 (by decide) (by decide), fun x H1 x0 x1 B1 b1 => ?_⟩
      have hp1 := dp_same (mk_but b1) _ _ hp
      refine ⟨rfl, _, rfl, ?_⟩
      refine ite2 (fun _ => ?_) (fun _ => ?_)
      · refine ⟨_, rfl, p, _, _, .int z.1, rfl, rfl, same_seqT (mk_sub b g H1) (same_seqT (mk_but b1) hpM), rfl, ?_⟩
        refine q _ _ ?_ B1 b1
        have : (z.1, (1 : Int)) = z := Prod.ext rfl e.symm
        rw [← this]
        exact Nv.int _
      · refine ⟨_, rfl, ?_⟩
        exact q _ _ ⟨_, hp1, numOf_rat rz⟩ B1 b1
    · refine ⟨_, rfl, ?_⟩
      exact q _ _ ⟨_, hp, numOf_rat rz⟩ (B.mono (by omega)) (But.refl _ _ _)
theorem ok_given (GT : Kn P w K mg base CX0 "_law_take" 2 ["_law_box_here", "_law_size"] spTake) (D : Df K mg "_law_given" s_l_given ["_law_box_here", "_law_number_here"]) :
    Kn P w K mg base CX0 "_law_given" 3 ["_law_box_here", "_law_number_here"] (spGiven K) := by
  obtain ⟨f, fd, F, a, b, c⟩ := ok_givenD GT D
  refine ⟨f, fd, F.imp fun vs H Q E h => ?_, a, b, c⟩
  obtain ⟨b, g, c, p, n, z, rfl, B, hn, hp, rz, q⟩ := h
  exact ⟨b, g, c, .ref p, n, z, rfl, B, hn, dp_rat (mk_tup B hp), rz, q⟩
end

/-! ### digits -/
open NumText in
theorem dv_app (a b : List Nat) : digitsVal (a ++ b) = digitsVal a * 10 ^ b.length + digitsVal b := by
  have key : ∀ (b : List Nat) (x : Nat), b.foldl (fun acc c => acc * 10 + (c - 48)) x = x * 10 ^ b.length + b.foldl (fun acc c => acc * 10 + (c - 48)) 0 := by
    intro b
    induction b with
    | nil => intro x; simp
    | cons c r ih =>
      intro x
      rw [List.foldl_cons, List.foldl_cons, ih, ih (0 * 10 + (c - 48)), List.length_cons, Nat.pow_succ]
      generalize r.foldl (fun acc c => acc * 10 + (c - 48)) 0 = y
      generalize 10 ^ r.length = z
      grind
  unfold digitsVal
  rw [List.foldl_append, key]
theorem dv_one (c : Nat) : NumText.digitsVal [c] = c - 48 := by
  unfold NumText.digitsVal
  simp
theorem dv_lt : ∀ l : List Nat, NumText.AllDigits l → NumText.digitsVal l < 10 ^ l.length := by
  intro l
  induction l with
  | nil => intro _; decide
  | cons c r ih =>
    intro h
    have e := dv_app [c] r
    rw [List.singleton_append] at e
    rw [e, dv_one, List.length_cons, Nat.pow_succ]
    have h1 := h.head
    have h2 := ih h.tail
    generalize 10 ^ r.length = z at *
    have h3 : (c - 48) * z ≤ 9 * z := Nat.mul_le_mul_right z (by omega)
    omega
theorem ad_app {a b : List Nat} : NumText.AllDigits (a ++ b) ↔ NumText.AllDigits a ∧ NumText.AllDigits b := by
  constructor
  · intro h
    exact ⟨fun c hc => h c (List.mem_append_left _ hc), fun c hc => h c (List.mem_append_right _ hc)⟩
  · rintro ⟨h1, h2⟩ c hc
    rcases List.mem_append.mp hc with h | h
    · exact h1 c h
    · exact h2 c h
theorem ad_take {l : List Nat} (n : Nat) (h : NumText.AllDigits l) : NumText.AllDigits (l.take n) := fun c hc => h c (List.mem_of_mem_take hc)
theorem ad_drop {l : List Nat} (n : Nat) (h : NumText.AllDigits l) : NumText.AllDigits (l.drop n) := fun c hc => h c (List.mem_of_mem_drop hc)
/-- k digits of m, zeros ahead -/
def padL : Nat → Nat → List Nat
  | 0, _ => []
  | k + 1, m => padL k (m / 10) ++ [48 + m % 10]
theorem padL_len : ∀ k m : Nat, (padL k m).length = k
  | 0, _ => rfl
  | k + 1, m => by
    show (padL k (m / 10) ++ [48 + m % 10]).length = k + 1
    rw [List.length_append, padL_len k]
    rfl
theorem padL_digits : ∀ k m : Nat, NumText.AllDigits (padL k m)
  | 0, _ => fun c hc => by cases hc
  | k + 1, m => ad_app.mpr ⟨padL_digits k _, fun c hc => by
      rw [List.mem_singleton.mp hc]
      have := Nat.mod_lt m (show 0 < 10 by decide)
      omega⟩
theorem numL_split : ∀ (k n : Nat), 10 ^ k ≤ n → TL.numL n = TL.numL (n / 10 ^ k) ++ padL k (n % 10 ^ k)
  | 0, n, _ => by
    show TL.numL n = TL.numL (n / 1) ++ []
    rw [Nat.div_one, List.append_nil]
  | k + 1, n, h => by
    have p : 0 < 10 ^ k := Nat.pow_pos (by decide)
    have e : (10 : Nat) ^ (k + 1) = 10 ^ k * 10 := Nat.pow_succ ..
    have h10 : 10 ≤ n := by
      have : 1 * 10 ≤ 10 ^ k * 10 := Nat.mul_le_mul_right _ p
      omega
    have hd : 10 ^ k ≤ n / 10 := by
      rw [Nat.le_div_iff_mul_le (by decide)]
      omega
    rw [TL.numL_step h10, numL_split k (n / 10) hd]
    show _ = _ ++ (padL k (n % 10 ^ (k + 1) / 10) ++ [48 + n % 10 ^ (k + 1) % 10])
    have e1 : n / 10 / 10 ^ k = n / 10 ^ (k + 1) := by rw [Nat.div_div_eq_div_mul, e, Nat.mul_comm]
    have e2 : n % 10 ^ (k + 1) / 10 = n / 10 % 10 ^ k := by
      rw [e, Nat.mul_comm (10 ^ k) 10, Nat.mod_mul_right_div_self]
    have e3 : n % 10 ^ (k + 1) % 10 = n % 10 := by
      rw [e, Nat.mod_mul_left_mod]
    rw [e1, e2, e3, List.append_assoc]
theorem padL_zero : ∀ k : Nat, padL k 0 = List.replicate k 48
  | 0 => rfl
  | k + 1 => by
    show padL k (0 / 10) ++ [48 + 0 % 10] = _
    rw [Nat.zero_div, padL_zero k, List.replicate_succ']
theorem padL_num : ∀ (k m : Nat), m < 10 ^ k → 0 < k → padL k m = List.replicate (k - (TL.numL m).length) 48 ++ TL.numL m
  | 0, _, _, h => absurd h (by decide)
  | k + 1, m, h, _ => by
    show padL k (m / 10) ++ [48 + m % 10] = _
    by_cases hm : m < 10
    · have e : m / 10 = 0 := Nat.div_eq_of_lt hm
      have e2 : m % 10 = m := Nat.mod_eq_of_lt hm
      rw [e, e2, padL_zero, TL.numL_lt hm]
      rfl
    · have h10 : 10 ≤ m := by omega
      have hk : 0 < k := by
        cases k with
        | zero =>
          have : m < 10 := h
          omega
        | succ k => exact Nat.succ_pos _
      have hlt : m / 10 < 10 ^ k := by
        rw [Nat.div_lt_iff_lt_mul (by decide)]
        rw [Nat.pow_succ] at h
        exact h
      rw [padL_num k (m / 10) hlt hk, TL.numL_step h10, List.length_append, List.append_assoc]
      show List.replicate (k - (TL.numL (m / 10)).length) 48 ++ _ = List.replicate (k + 1 - ((TL.numL (m / 10)).length + 1)) 48 ++ _
      rw [Nat.add_sub_add_right]
theorem padL_val : ∀ (k m : Nat), m < 10 ^ k → NumText.digitsVal (padL k m) = m
  | 0, m, h => by
    have : m < 1 := h
    have e : m = 0 := by omega
    rw [e]
    rfl
  | k + 1, m, h => by
    have hlt : m / 10 < 10 ^ k := by
      rw [Nat.div_lt_iff_lt_mul (by decide)]
      rw [Nat.pow_succ] at h
      exact h
    show NumText.digitsVal (padL k (m / 10) ++ [48 + m % 10]) = m
    rw [dv_app, padL_val k _ hlt, dv_one]
    show m / 10 * 10 ^ 1 + (48 + m % 10 - 48) = m
    omega
/-! ### texts as lists of signs -/
abbrev tx (l : List Nat) : V := .str (SX.S l)
theorem isDig : ∀ c : Nat, c < 128 → Unicode.isDigit c = (decide (48 ≤ c) && decide (c ≤ 57)) := by decide +kernel
def allDig (l : List Nat) : Bool := l.all fun c => decide (48 ≤ c) && decide (c ≤ 57)
theorem allDig_iff {l : List Nat} : allDig l = true ↔ NumText.AllDigits l := by
  unfold allDig NumText.AllDigits
  rw [List.all_eq_true]
  constructor
  · intro h c hc
    have := h c hc
    simp at this
    exact this
  · intro h c hc
    have := h c hc
    simp
    exact this
theorem asciiS (l : List Nat) : Txt.isascii (SX.S l) = l.all (· < 128) := by
  unfold Txt.isascii
  simp [SX.S]
theorem digitS (l : List Nat) : Txt.isdigit (SX.S l) = (decide (0 < l.length) && l.all Unicode.isDigit) := by
  unfold Txt.isdigit
  simp [SX.S, Str.length]
theorem both_dig (l : List Nat) : (if l.all (· < 128) = true then (decide (0 < l.length) && l.all Unicode.isDigit) else false) = (decide (l ≠ []) && allDig l) := by
  by_cases h : l.all (· < 128) = true
  · rw [if_pos h]
    have e : l.all Unicode.isDigit = allDig l := by
      unfold allDig
      rw [Bool.eq_iff_iff, List.all_eq_true, List.all_eq_true]
      rw [List.all_eq_true] at h
      constructor
      · intro z c hc
        rw [← isDig c (by have := h c hc; simpa using this)]
        exact z c hc
      · intro z c hc
        rw [isDig c (by have := h c hc; simpa using this)]
        exact z c hc
    rw [e]
    cases l <;> simp
  · rw [if_neg h]
    have e : allDig l = false := by
      rw [Bool.eq_false_iff]
      intro z
      apply h
      rw [List.all_eq_true]
      intro c hc
      have := allDig_iff.mp z c hc
      simp
      omega
    rw [e, Bool.and_false]
theorem intS {l : List Nat} (h : NumText.AllDigits l) (hne : l ≠ []) (hl : l.length ≤ 640) : intText? (SX.S l) = some ((NumText.digitsVal l : Nat) : Int) := SX.int_S (allDig_iff.mpr h) hne (by omega)
theorem zfillS (l : List Nat) (k : Nat) (h : NumText.AllDigits l) (hne : l ≠ []) : Txt.zfill (SX.S l) (k : Int) = SX.S (List.replicate (k - l.length) 48 ++ l) := by
  unfold Txt.zfill
  rw [SX.S_len]
  split
  · rename_i z
    have e : k - l.length = 0 := by omega
    rw [e]
    rfl
  · rename_i z
    obtain ⟨c, r, rfl⟩ : ∃ c r, l = c :: r := by
      cases l with
      | nil => exact absurd rfl hne
      | cons c r => exact ⟨c, r, rfl⟩
    have hc := h.head
    unfold PySem.zfilled
    have e0 : (SX.S (c :: r)).cps[0]? = some c := by simp [SX.S]
    rw [e0]
    have e1 : c ≠ 43 := by omega
    have e2 : c ≠ 45 := by omega
    split
    · rename_i w; exact absurd (Option.some.inj w) e1
    · rename_i w; exact absurd (Option.some.inj w) e2
    · apply TL.ext_tl
      simp [Builtin.Str.padded, TL.tl, SX.S]
theorem sliceFromTo {a : List Nat} {i j : Nat} (h : i ≤ j) (hj : j ≤ a.length) : Txt.slice (SX.S a) (some (i : Int)) (some (j : Int)) = SX.S ((a.drop i).take (j - i)) := by
  rw [← C8.cutS_slice, ← L2.sliceText_cut, StrLaws.sliceText_nat (SX.S a) h (by rw [SX.S_len]; exact hj)]

/-! ### a text read as a number -/
def isD (c : Nat) : Bool := decide (48 ≤ c) && decide (c ≤ 57)
def digs (l : List Nat) : Bool := decide (l ≠ []) && allDig l
def unsg : List Nat → List Nat | 45 :: r => r | l => l
def neg1 (l : List Nat) : Bool := decide (l.head? = some 45)
def sgnd (l : List Nat) (n : Nat) : Int := if neg1 l = true then -(n : Int) else (n : Int)
def markOf (l a b : List Nat) (c : Nat) : Option (Int × Int) :=
  if c = 46 then some (nrm (sgnd l (NumText.digitsVal (a ++ b))) ((10 ^ b.length : Nat) : Int))
  else if c = 47 then (if NumText.digitsVal b = 0 then none else some (nrm (sgnd l (NumText.digitsVal a)) (NumText.digitsVal b : Nat))) else none
def readU (l u : List Nat) : Option (Int × Int) :=
  if digs u = true then some (nrm (sgnd l (NumText.digitsVal u)) 1) else
    match u.dropWhile isD with
    | c :: b => if digs (u.takeWhile isD) = true ∧ digs b = true then markOf l (u.takeWhile isD) b c else none
    | [] => none
def readL (l : List Nat) : Option (Int × Int) := readU l (unsg l)
theorem digs_iff {l : List Nat} : digs l = true ↔ l ≠ [] ∧ NumText.AllDigits l := by
  unfold digs
  rw [Bool.and_eq_true, decide_eq_true_eq, allDig_iff]
theorem isD_iff {c : Nat} : isD c = true ↔ 48 ≤ c ∧ c ≤ 57 := by
  unfold isD
  rw [Bool.and_eq_true, decide_eq_true_eq, decide_eq_true_eq]
theorem ad_isD {l : List Nat} (h : NumText.AllDigits l) {c : Nat} (hc : c ∈ l) : isD c = true := isD_iff.mpr (h c hc)
theorem tw_app : ∀ {a : List Nat} {c : Nat} {b : List Nat}, NumText.AllDigits a → isD c = false → (a ++ c :: b).takeWhile isD = a ∧ (a ++ c :: b).dropWhile isD = c :: b
  | [], c, b, _, hc => by
    rw [List.nil_append, List.takeWhile_cons, List.dropWhile_cons, hc]
    exact ⟨rfl, rfl⟩
  | x :: a, c, b, h, hc => by
    have i := tw_app (b := b) (NumText.AllDigits.tail h) hc
    have hx : isD x = true := ad_isD h (List.mem_cons_self ..)
    rw [List.cons_append, List.takeWhile_cons, List.dropWhile_cons, hx]
    exact ⟨congrArg (x :: ·) i.1, i.2⟩
theorem not_digs_mem {u : List Nat} {c : Nat} (hc : c ∈ u) (hn : isD c = false) : digs u = false := by
  rw [Bool.eq_false_iff]
  intro h
  have := ad_isD (digs_iff.mp h).2 hc
  rw [hn] at this
  cases this
theorem readU_digs {l u : List Nat} (h : digs u = true) : readU l u = some (nrm (sgnd l (NumText.digitsVal u)) 1) := by
  unfold readU
  rw [if_pos h]
theorem readU_mark {l u a b : List Nat} {c : Nat} (e : u = a ++ c :: b) (ha : NumText.AllDigits a) (hc : isD c = false) : readU l u = if digs a = true ∧ digs b = true then markOf l a b c else none := by
  have hm : c ∈ u := by rw [e]; exact List.mem_append_right _ (List.mem_cons_self ..)
  unfold readU
  rw [if_neg (by rw [not_digs_mem hm hc]; exact Bool.false_ne_true)]
  have t := tw_app (b := b) ha hc
  rw [e, t.1, t.2]
theorem span_eq : ∀ u : List Nat, u = u.takeWhile isD ++ u.dropWhile isD := fun u => List.takeWhile_append_dropWhile.symm
theorem tw_digits (u : List Nat) : NumText.AllDigits (u.takeWhile isD) := fun c hc => by
  have := List.all_takeWhile (p := isD) (l := u)
  rw [List.all_eq_true] at this
  exact isD_iff.mp (this c hc)
theorem readU_some {l u : List Nat} {z : Int × Int} (h : readU l u = some z) : digs u = true ∨ ∃ a b c, u = a ++ c :: b ∧ digs a = true ∧ digs b = true ∧ (c = 46 ∨ c = 47) := by
  unfold readU at h
  split at h
  · rename_i w
    exact .inl w
  · split at h
    · rename_i c b e
      split at h
      · rename_i w
        refine .inr ⟨u.takeWhile isD, b, c, ?_, w.1, w.2, ?_⟩
        · rw [← e]
          exact span_eq u
        · unfold markOf at h
          split at h
          · rename_i w1; exact .inl w1
          · split at h
            · rename_i w1; exact .inr w1
            · cases h
      · cases h
    · cases h
theorem split_uniq {c : Nat} : ∀ {a a' b b' : List Nat}, a ++ c :: b = a' ++ c :: b' → c ∉ a → c ∉ a' → a = a' ∧ b = b'
  | [], [], b, b', h, _, _ => ⟨rfl, (List.cons.inj h).2⟩
  | [], x :: a', b, b', h, _, h2 => absurd (by rw [(List.cons.inj h).1]; exact List.mem_cons_self ..) h2
  | x :: a, [], b, b', h, h1, _ => absurd (by rw [← (List.cons.inj h).1]; exact List.mem_cons_self ..) h1
  | x :: a, y :: a', b, b', h, h1, h2 => by
    obtain ⟨e1, e2⟩ := List.cons.inj h
    obtain ⟨r1, r2⟩ := split_uniq e2 (fun z => h1 (List.mem_cons_of_mem _ z)) (fun z => h2 (List.mem_cons_of_mem _ z))
    exact ⟨by rw [e1, r1], r2⟩
theorem not_mem_digs {a : List Nat} {c : Nat} (h : digs a = true) (hc : isD c = false) : c ∉ a := fun z => by
  have := ad_isD (digs_iff.mp h).2 z
  rw [hc] at this
  cases this
/-- another split by a mark: no reading -/
theorem readU_bad {l u a b : List Nat} {c : Nat} (e : u = a ++ c :: b) (hca : c ∉ a) (hc : c = 46 ∨ c = 47) (hb : ¬ (digs a = true ∧ digs b = true)) : readU l u = none := by
  have hcd : isD c = false := by rcases hc with rfl | rfl <;> rfl
  cases h : readU l u with
  | none => rfl
  | some z =>
    have hm : c ∈ u := by rw [e]; exact List.mem_append_right _ (List.mem_cons_self ..)
    rcases readU_some h with w | ⟨a', b', c', e', ha', hb', hc'⟩
    · rw [not_digs_mem hm hcd] at w
      cases w
    · have hcc : c = c' := by
        rw [e'] at hm
        rcases List.mem_append.mp hm with m | m
        · exact absurd m (not_mem_digs ha' hcd)
        · rcases List.mem_cons.mp m with m | m
          · exact m
          · exact absurd m (not_mem_digs hb' hcd)
      subst hcc
      obtain ⟨r1, r2⟩ := split_uniq (e.symm.trans e') hca (not_mem_digs ha' hcd)
      subst r1
      subst r2
      exact absurd ⟨ha', hb'⟩ hb
theorem readU_nomark {l u : List Nat} (h46 : 46 ∉ u) (h47 : 47 ∉ u) (hd : digs u = false) : readU l u = none := by
  cases h : readU l u with
  | none => rfl
  | some z =>
    rcases readU_some h with w | ⟨a', b', c', e', ha', hb', hc'⟩
    · rw [hd] at w
      cases w
    · have hm : c' ∈ u := by rw [e']; exact List.mem_append_right _ (List.mem_cons_self ..)
      rcases hc' with rfl | rfl
      · exact absurd hm h46
      · exact absurd hm h47
theorem startsS (l : List Nat) : Txt.startswith (SX.S l) (Str.ofString "-") = neg1 l := by
  rw [show Str.ofString "-" = SX.S [45] by decide +kernel]
  cases l with
  | nil => rfl
  | cons c r =>
    unfold Txt.startswith neg1 Builtin.Str.subAt
    rw [SX.S_len, SX.S_len]
    simp [SX.S]
    rfl
theorem prefixS (l : List Nat) : Txt.removeprefix (SX.S l) (Str.ofString "-") = SX.S (unsg l) := by
  rw [show Str.ofString "-" = SX.S [45] by decide +kernel, StrLaws.removeprefix_eq]
  cases l with
  | nil => rfl
  | cons c r =>
    have e : (decide (0 + (SX.S [45]).length ≤ (SX.S (c :: r)).length) && Builtin.Str.subAt (SX.S (c :: r)) (SX.S [45]) 0) = decide (c = 45) := by
      unfold Builtin.Str.subAt
      rw [SX.S_len, SX.S_len]
      simp [SX.S]
      rfl
    rw [e]
    by_cases h : c = 45
    · rw [if_pos (decide_eq_true h), h]
      show _ = SX.S r
      rw [SX.S_len, SX.S_len]
      simp [SX.S]
    · rw [if_neg (by simpa using h)]
      have : unsg (c :: r) = c :: r := by
        unfold unsg
        split
        · rename_i w
          exact absurd (List.cons.inj w).1 h
        · rfl
      rw [this]

structure Ut (mg : Str → Option Value) : Prop where
  n_divmod : mg "divmod" = none
  n_str : mg "str" = none
  g_unit : ∃ t, mg "GROUP_UNIT" = some (.int (10 ^ 64) t)
  g_digits : ∃ t, mg "GROUP_DIGITS" = some (.int 64 t)
/-- the decimal text of an integer -/
def intL (n : Int) : List Nat := if n < 0 then 45 :: TL.numL n.natAbs else TL.numL n.natAbs
def spIntText : Sp := fun vs H Q _ => ∃ n : Int, vs = [.int n] ∧ n.natAbs < 10 ^ 5000 ∧ ∀ H', Same H H' → Q (tx (intL n)) H'
def spAreDigits : Sp := fun vs H Q _ => ∃ l : List Nat, vs = [tx l] ∧ Q (.bl (decide (l ≠ []) && allDig l)) H
def spReadDigits : Sp := fun vs H Q _ => ∃ l : List Nat, vs = [tx l] ∧ NumText.AllDigits l ∧ l.length ≤ 5000 ∧ Q (.int (NumText.digitsVal l : Nat)) H
theorem numL_len5000 {n : Nat} (h : n < 10 ^ 5000) : (TL.numL n).length ≤ 5000 := TL.numL_len (by decide) h
theorem pow5000 : (10 : Nat) ^ 5000 < 2 ^ 17000 := by decide +kernel
/-- the groups that are written so far, the last one first -/
theorem join_nil : ∀ ys : List (List Nat), TL.joinL [] ys = ys.flatten
  | [] => rfl
  | [y] => by show y = y ++ []; rw [List.append_nil]
  | y :: z :: r => by
    show y ++ ([] ++ TL.joinL [] (z :: r)) = y ++ (z :: r).flatten
    rw [join_nil (z :: r), List.nil_append]
theorem str_neg {n : Int} (h : n < 0) : Str.ofString "-" ++ SX.S (TL.numL n.natAbs) = SX.S (intL n) := by
  rw [show Str.ofString "-" = SX.S [45] by decide +kernel, SX.S_cat]
  unfold intL
  rw [if_pos h]
  rfl
theorem str_pos {n : Int} (h : ¬ n < 0) : Str.ofString "" ++ SX.S (TL.numL n.natAbs) = SX.S (intL n) := by
  rw [show Str.ofString "" = SX.S [] by decide +kernel, SX.S_cat]
  unfold intL
  rw [if_neg h]
  rfl
theorem log_group {n : Nat} (h : n < 10 ^ 64) : ((n : Nat) : Int).natAbs.log2 < 1920 :=
  PySem.Flt.log2_lt_of (by decide) (show ((n : Nat) : Int).natAbs < 2 ^ 1920 from by rw [Int.natAbs_natCast]; exact Nat.lt_trans h (by decide +kernel))
theorem intL_len {n : Int} (h : n.natAbs < 10 ^ 5000) : (intL n).length ≤ 5001 := by
  have := numL_len5000 h
  unfold intL
  split
  · rw [List.length_cons]
    omega
  · omega
theorem zero_S : (Str.ofString "0") = SX.S [48] := by decide +kernel
theorem rgc64 {first n : Nat} (h : first + 64 * n ≤ 5000) : RgC (first : Int) ((first + 64 * n : Nat) : Int) 64 n := by
  have e : Builtin.Range.rangeSize (first : Int) ((first + 64 * n : Nat) : Int) 64 = (n : Int) := by
    unfold Builtin.Range.rangeSize
    rw [if_pos (by decide)]
    split <;> omega
  refine ⟨by decide, by decide, ?_, e⟩
  unfold Builtin.Range.small
  rw [e]
  have f : ∀ z : Int, 0 ≤ z → z ≤ 6000 → Builtin.Range.rangeFitsLong z = true := fun z h1 h2 => by
    unfold Builtin.Range.rangeFitsLong
    rw [Bool.and_eq_true, decide_eq_true_eq, decide_eq_true_eq]
    have : (6000 : Int) < 2 ^ 63 := by decide
    omega
  rw [f _ (by omega) (by omega), f _ (by omega) (by omega), f 64 (by decide) (by decide), f n (by omega) (by omega)]
  rw [if_pos (show (64 : Int) > 0 by decide)]
  rw [f _ (by omega) (by omega)]
  simp
section
variable {P : Program} {w : World} {K : PySem.W.Frag} {mg : Str → Option Value} {base : Heap}
theorem ok_are_digits (D : Df K mg "are_digits" s_are_digits ["text"]) : Kn P w K mg base CX0 "are_digits" 1 ["text"] spAreDigits := by
  obtain ⟨f, fd, F, hm, hb⟩ := D
  refine ⟨f, fd, F.ok sc_are_digits (fun vs H Q E h => ?_) (fun cdv A outer s H vs Q E hr h => ?_), hm, F.kp, hb⟩
  · obtain ⟨l, rfl, _⟩ := h
    rfl
  · obtain ⟨l, rfl, q⟩ := h
    refine ⟨_, (pss_one (ps_ret (pe_and (pe_bm0 PySem.F.plainAttrs_str PySem.F.slot_str_isascii PySem.F.type_str_isascii mt_isascii (pv 0)) (pe_one (pe_bm0 PySem.F.plainAttrs_str PySem.F.slot_str_isdigit PySem.F.type_str_isdigit mt_isdigit (pv 0)))))), ?_⟩
    rw [← both_dig] at q
    refine ⟨_, rfl, rfl, _, rfl, rfl, trivial, _, rfl, ?_⟩
    rw [asciiS]
    refine ite2 (fun c => ?_) (fun c => ?_)
    · rw [if_pos c] at q
      refine ⟨_, rfl, rfl, _, rfl, rfl, trivial, ?_⟩
      rw [digitS]
      exact q
    · rw [if_neg c] at q
      exact q
theorem ok_read_digits (T : Bt mg) (Tt : Ut mg) (D : Df K mg "read_digits" s_read_digits ["digits"]) : Kn P w K mg base CX0 "read_digits" 1 ["digits"] spReadDigits := by
  obtain ⟨t1, hunit⟩ := Tt.g_unit
  obtain ⟨t2, hdig⟩ := Tt.g_digits
  obtain ⟨f, fd, F, hm, hb⟩ := D
  refine ⟨f, fd, F.ok sc_read_digits (fun vs H Q E h => ?_) (fun cdv A outer s H vs Q E hr h => ?_), hm, F.kp, hb⟩
  · obtain ⟨l, rfl, _⟩ := h
    rfl
  · obtain ⟨l, rfl, had, hlen, q⟩ := h
    refine ⟨_, (pss_cons (ps_set (i := 1) sc_read_digits.nd rfl (Or.inl rfl) (pe_op op_mod (pe_callB call_len_str (by rfl) T.n_len (by decide +kernel) (pa_cons (pv 0) pa_nil)) (pe_glob (v := .int 64) rfl hdig ⟨_, rfl⟩)))
      (pss_cons (ps_set (i := 2) sc_read_digits.nd rfl (Or.inl rfl) (pe_callTy call_int_str (by rfl) T.n_int (by decide +kernel) (pa_cons (pe_op op_add_str pe_str (pe_slice C8.sl_txt (pv 0) po_none (po_some (pv 1)))) pa_nil)))
      (pss_cons (ps_for PassesOwn.never rfl (pi_range3 rfl T.n_range (pa_cons (pv 1) (pa_cons (pe_callB call_len_str (by rfl) T.n_len (by decide +kernel) (pa_cons (pv 0) pa_nil)) (pa_cons (pe_glob (v := .int 64) rfl hdig ⟨_, rfl⟩) pa_nil)))) (pg_name (i := 3) sc_read_digits.nd rfl (Or.inl rfl))
        (pss_one (ps_set (i := 2) sc_read_digits.nd rfl (Or.inl rfl) (pe_op op_add (pe_op op_mulW (pv 2) (pe_glob (v := .int (10 ^ 64)) rfl hunit ⟨_, rfl⟩)) (pe_callTy call_int_str (by rfl) T.n_int (by decide +kernel) (pa_cons (pe_slice C8.sl_txt (pv 0) (po_some (pv 3)) (po_some (pe_op op_add (pv 3) (pe_glob (v := .int 64) rfl hdig ⟨_, rfl⟩)))) pa_nil))))))
      (pss_one (ps_ret (pv 2)))))), ?_⟩
    have hsl : (SX.S l).length ≤ sizeLine := by rw [SX.S_len]; exact Nat.le_trans hlen (by decide)
    refine ⟨_, rfl, _, rfl, hsl, _, _, rfl, rfl, (show (0 : Int) < 64 by decide), ?_⟩
    have e0 : ∀ first : Nat, l.length % 64 = first → ((SX.S l).length : Int) % 64 = (first : Int) := fun first h => by rw [SX.S_len]; omega
    obtain ⟨first, hf⟩ : ∃ first, l.length % 64 = first := ⟨_, rfl⟩
    have e00 := e0 first hf
    have hf64 : first < 64 := by rw [← hf]; exact Nat.mod_lt _ (by decide)
    have hfl : first ≤ l.length := by rw [← hf]; exact Nat.mod_le _ _
    -- number = int('0' + digits[:first])
    have e1 : Txt.slice (SX.S l) none (some (((SX.S l).length : Int) % 64)) = SX.S (l.take first) := by rw [e00, SX.slice_to (by omega)]; rfl
    have hz : (Str.ofString "0" ++ Txt.slice (SX.S l) none (some (((SX.S l).length : Int) % 64))) = SX.S (48 :: l.take first) := by
      rw [e1, zero_S]
      exact SX.S_cat _ _
    have htl : (l.take first).length = first := by rw [List.length_take]; omega
    have hl1 : (Str.ofString "0").length + (Txt.slice (SX.S l) none (some (((SX.S l).length : Int) % 64))).length ≤ sizeLine := by
      rw [e1, zero_S, SX.S_len, SX.S_len, htl]
      exact Nat.le_trans (show [48].length + first ≤ 1000 by show 1 + first ≤ 1000; omega) (by decide)
    have had1 : NumText.AllDigits (48 :: l.take first) := fun c hc => by
      rcases List.mem_cons.mp hc with rfl | hc
      · decide
      · exact ad_take first had c hc
    have hv1 : NumText.digitsVal (48 :: l.take first) = NumText.digitsVal (l.take first) := by
      have e := dv_app [48] (l.take first)
      rw [List.singleton_append] at e
      rw [e, dv_one, Nat.sub_self, Nat.zero_mul, Nat.zero_add]
    refine ⟨_, rfl, _, rfl, _, rfl, _, rfl, hsl, _, _, rfl, rfl, hl1, _, (NumText.digitsVal (l.take first) : Int), rfl,
      (by rw [hz, intS had1 (List.cons_ne_nil _ _) (by rw [List.length_cons, htl]; omega), hv1]), (by rw [hz, SX.S_len, List.length_cons, htl]; omega), ?_⟩
    -- the groups
    obtain ⟨n, hn⟩ : ∃ n, l.length = first + 64 * n := ⟨l.length / 64, by omega⟩
    refine ⟨_, rfl, _, rfl, _, rfl, hsl, _, _, _, n, rfl, (by rw [e00, SX.S_len, hn]; exact rgc64 (by omega)), ?_⟩
    refine for_rangeC (lo := ((SX.S l).length : Int) % 64) (c := 64) (n := n) (fun i σ H' => H' = H ∧ ∃ x y, σ = [some (tx l), some x, some (.int (NumText.digitsVal (l.take (first + 64 * i)) : Nat)), y]) ⟨rfl, _, _, rfl⟩ ?_ ?_
    · rintro i σ H' hi ⟨rfl, x, y, rfl⟩
      have hi2 : first + 64 * i + 64 ≤ l.length := by omega
      have eat : ((SX.S l).length : Int) % 64 + (i : Nat) * 64 = ((first + 64 * i : Nat) : Int) := by rw [e00]; omega
      have eat2 : ((SX.S l).length : Int) % 64 + (i : Nat) * 64 + 64 = ((first + 64 * i + 64 : Nat) : Int) := by rw [eat]; omega
      have es : Txt.slice (SX.S l) (some (((SX.S l).length : Int) % 64 + (i : Nat) * 64)) (some (((SX.S l).length : Int) % 64 + (i : Nat) * 64 + 64)) = SX.S ((l.drop (first + 64 * i)).take 64) := by
        rw [eat2, eat, sliceFromTo (by omega) hi2, Nat.add_sub_cancel_left]
      have hgl : ((l.drop (first + 64 * i)).take 64).length = 64 := by
        rw [List.length_take, List.length_drop]
        omega
      have hgd : NumText.AllDigits ((l.drop (first + 64 * i)).take 64) := ad_take 64 (ad_drop _ had)
      have hne : (l.drop (first + 64 * i)).take 64 ≠ [] := fun z => by
        rw [z] at hgl
        cases hgl
      have hnow : NumText.digitsVal (l.take (first + 64 * i)) < 10 ^ 5000 := by
        refine Nat.lt_of_lt_of_le (dv_lt _ (ad_take _ had)) (Nat.pow_le_pow_right (by decide) ?_)
        rw [List.length_take]
        omega
      refine ⟨_, rfl, _, _, rfl, rfl, wide_mul (a := 17000) (b := 220) (by rw [Int.natAbs_natCast]; exact Nat.lt_trans hnow pow5000) (by decide) (by decide) (by decide) (by decide), ?_⟩
      refine ⟨_, rfl, _, rfl, _, rfl, _, rfl, _, _, rfl, rfl, _, rfl, _, rfl, hsl, _, (NumText.digitsVal ((l.drop (first + 64 * i)).take 64) : Int), rfl, (by rw [es]; exact intS hgd hne (by rw [hgl]; decide)), (by rw [es, SX.S_len, hgl]; decide), _, _, rfl, rfl, rfl, ?_⟩
      refine ⟨_, _, congrArg (fun z => [some (tx l), some _, some (V.int z), some _]) ?_⟩
      have et : l.take (first + 64 * (i + 1)) = l.take (first + 64 * i) ++ (l.drop (first + 64 * i)).take 64 := by
        rw [show first + 64 * (i + 1) = (first + 64 * i) + 64 by omega, List.take_add]
      rw [et, dv_app, hgl]
      rw [Int.natCast_add, Int.natCast_mul]
      rfl
    · rintro σ H' ⟨rfl, x, y, rfl⟩
      refine ⟨_, rfl, ?_⟩
      rw [← hn, List.take_length]
      exact q

theorem ok_integer_text (T : Bt mg) (Tt : Ut mg) (D : Df K mg "integer_text" s_integer_text ["number"]) : Kn P w K mg base CX0 "integer_text" 1 ["number"] spIntText := by
  obtain ⟨t1, hunit⟩ := Tt.g_unit
  obtain ⟨t2, hdig⟩ := Tt.g_digits
  obtain ⟨f, fd, F, hm, hb⟩ := D
  refine ⟨f, fd, F.ok sc_integer_text (fun vs H Q E h => ?_) (fun cdv A outer s H vs Q E hr h => ?_), hm, F.kp, hb⟩
  · obtain ⟨n, rfl, _⟩ := h
    rfl
  · obtain ⟨n, rfl, hn, q⟩ := h
    refine ⟨_, (pss_cons (ps_set (i := 1) sc_integer_text.nd rfl (Or.inl rfl) (pe_callB call_abs (by rfl) T.n_abs (by decide +kernel) (pa_cons (pv 0) pa_nil)))
      (pss_cons (ps_set (i := 2) sc_integer_text.nd rfl (Or.inl rfl) (pe_lst pa_nil))
      (pss_cons (ps_while PassesOwn.never (pt_cmpR op_ge (pv 1) (pe_glob (v := .int (10 ^ 64)) rfl hunit ⟨_, rfl⟩) (nomark _)) (pss_cons (ps_asg (pe_callB call_divmodW (by rfl) Tt.n_divmod (by decide +kernel) (pa_cons (pv 1) (pa_cons (pe_glob (v := .int (10 ^ 64)) rfl hunit ⟨_, rfl⟩) pa_nil))) (pg_tup (by rfl) (pgs_cons (pg_name (i := 1) sc_integer_text.nd rfl (Or.inl rfl)) (pgs_cons (pg_name (i := 3) sc_integer_text.nd rfl (Or.inl rfl)) pgs_nil))))
      (pss_one (ps_expr (pe_bm PySem.F.plainAttrs_list PySem.F.slot_list_append PySem.F.type_list_append mt_append (pv 2) (pa_cons (pe_bm PySem.F.plainAttrs_str PySem.F.slot_str_zfill PySem.F.type_str_zfill mt_zfill (pe_callTy call_str_int (by rfl) Tt.n_str (by decide +kernel) (pa_cons (pv 3) pa_nil)) (pa_cons (pe_glob (v := .int 64) rfl hdig ⟨_, rfl⟩) pa_nil)) pa_nil))))))
      (pss_cons (ps_expr (pe_bm PySem.F.plainAttrs_list PySem.F.slot_list_append PySem.F.type_list_append mt_append (pv 2) (pa_cons (pe_callTy call_str_int (by rfl) Tt.n_str (by decide +kernel) (pa_cons (pv 1) pa_nil)) pa_nil)))
      (pss_cons (ps_expr (pe_bm0 PySem.F.plainAttrs_list PySem.F.slot_list_reverse PySem.F.type_list_reverse mt_reverse (pv 2)))
      (C8.pss_cut (ps_set (i := 4) sc_integer_text.nd rfl (Or.inl rfl) (pe_ifExp (pt_cmpR op_lt (pv 0) pe_int (nomark _)) pe_str pe_str))
      (pss_one (ps_ret (pe_op op_add_str (pv 4) (pe_bm PySem.F.plainAttrs_str PySem.F.slot_str_join PySem.F.type_str_join mt_join pe_str (pa_cons (pv 2) pa_nil))))))))))), ?_⟩
    have eabs : (if n < 0 then -n else n) = ((n.natAbs : Nat) : Int) := by omega
    have hN5 : n.natAbs < 10 ^ 5000 := hn
    have hNl := numL_len5000 hN5
    refine ⟨_, rfl, _, rfl, (by show 0 ≤ sizeLine; decide), fun l nl => ?_⟩
    refine while_by (fun σ H2 => ∃ (r : Nat) (gs : List (List Nat)) (z : Option V), σ = [some (.int n), some (.int (r : Int)), some (.ref l), z, none] ∧ H2 l = some (.lst ((gs.map SX.S).map V.str)) ∧ Same H H2 ∧
      TL.numL n.natAbs = TL.numL r ++ gs.reverse.flatten ∧ (∀ g ∈ gs, g.length = 64)) (fun σ _ => match σ with | [_, some (.int r), _, _, _] => r.natAbs | _ => 0)
      ⟨n.natAbs, [], none, (by rw [← eabs]; rfl), upd_same, same_new nl _, (by rw [List.reverse_nil, List.flatten_nil, List.append_nil]), fun g hg => by cases hg⟩ ?_ ?_
    · rintro σ H2 ⟨r, gs, z, rfl, hl, sm, hv, hgs⟩
      have hgl : 64 * gs.length = gs.reverse.flatten.length := by
        rw [List.length_flatten, List.map_reverse, List.sum_reverse]
        clear hv hl
        induction gs with
        | nil => rfl
        | cons g gs ih =>
          rw [List.map_cons, List.sum_cons, hgs g (List.mem_cons_self ..), ← ih (fun g hg => hgs g (List.mem_cons_of_mem _ hg)), List.length_cons]
          omega
      have hlen : (TL.numL r).length + 64 * gs.length ≤ 5000 := by
        rw [hgl, ← List.length_append, ← hv]
        exact hNl
      refine ⟨_, rfl, _, _, rfl, rfl, _, rfl, ?_⟩
      refine ite2 (fun c => ?_) (fun c => ?_)
      · have hr64 : 10 ^ 64 ≤ r := by
          have := of_decide_eq_true c
          omega
        refine ⟨_, rfl, _, _, rfl, ⟨by decide, PyProof.noPylong_of_log2 (by decide +kernel)⟩, fun p np => ?_⟩
        refine ⟨_, _, rfl, SqT.of upd_same, rfl, ?_⟩
        have hlp : l ≠ p := fun e => by
          rw [e, np] at hl
          cases hl
        have hl2 : upd H2 p (.tup [.int ((r : Int) / (10 ^ 64 : Int)), .int ((r : Int) % (10 ^ 64 : Int))]) l = some (.lst ((gs.map SX.S).map V.str)) := by
          rw [upd_ne hlp]
          exact hl
        have s2 := sm.trans (same_new np (.tup [.int ((r : Int) / (10 ^ 64 : Int)), .int ((r : Int) % (10 ^ 64 : Int))]))
        have eq1 : (r : Int) / (10 ^ 64 : Int) = ((r / 10 ^ 64 : Nat) : Int) := by omega
        have eq2 : (r : Int) % (10 ^ 64 : Int) = ((r % 10 ^ 64 : Nat) : Int) := by omega
        have hm64 : r % 10 ^ 64 < 10 ^ 64 := Nat.mod_lt _ (by decide)
        have ez : Txt.zfill (Str.ofString (toString ((r : Int) % (10 ^ 64 : Int)))) 64 = SX.S (padL 64 (r % 10 ^ 64)) := by
          rw [eq2, SX.num_S]
          rw [show (64 : Int) = ((64 : Nat) : Int) from rfl, zfillS _ _ (TL.numL_digits _) (TL.numL_ne _), ← padL_num 64 _ hm64 (by decide)]
        refine ⟨_, _, rfl, _, _, rfl, rfl, ?_⟩
        refine ⟨_, rfl, .inl ⟨rfl, _, SqL.of hl2⟩, _, rfl, _, rfl, (by rw [eq2]; exact log_group hm64), rfl, _, _, rfl, rfl, (by decide +kernel), _, _, _, rfl, rfl, hl2, ?_, ?_⟩
        · rw [List.length_map, List.length_map]
          exact small1000 (by omega)
        · refine ⟨⟨r / 10 ^ 64, gs ++ [padL 64 (r % 10 ^ 64)], _, (by rw [← eq1]; rfl), ?_, ?_, ?_, ?_⟩, ?_⟩
          · rw [upd_same, ez, List.map_append, List.map_append]
            rfl
          · intro b u e
            rw [upd_ne (ne_of_none e nl)]
            exact s2 b u e
          · rw [hv, numL_split 64 r hr64, List.reverse_append, List.reverse_singleton, List.singleton_append, List.flatten_cons, List.append_assoc]
          · intro g hg
            rcases List.mem_append.mp hg with h | h
            · exact hgs g h
            · rw [List.mem_singleton.mp h, padL_len]
          · show ((r : Int) / (10 ^ 64 : Int)).natAbs < ((r : Nat) : Int).natAbs
            omega
      · have hr64 : r < 10 ^ 64 := by
          have : ¬ _ := fun z => c (decide_eq_true z)
          omega
        have hlog := log_group hr64
        have hf1 : (gs.map SX.S).map V.str ++ [V.str (Str.ofString (toString (r : Int)))] = ((gs ++ [TL.numL r]).map SX.S).map V.str := by
          rw [SX.num_S, List.map_append, List.map_append]
          rfl
        have hf2 : ((gs.map SX.S).map V.str ++ [V.str (Str.ofString (toString (r : Int)))]).reverse = ((gs ++ [TL.numL r]).reverse.map SX.S).map V.str := by
          rw [hf1, List.map_reverse, List.map_reverse]
        have hfl : (gs ++ [TL.numL r]).reverse.flatten = TL.numL n.natAbs := by
          rw [List.reverse_append, List.reverse_singleton, List.singleton_append, List.flatten_cons, hv]
        have hj : Txt.join (Str.ofString "") ((gs ++ [TL.numL r]).reverse.map SX.S) = SX.S (TL.numL n.natAbs) := by
          rw [show Str.ofString "" = SX.S [] by decide +kernel, SX.join_S, join_nil, hfl]
        have hsz : (((gs ++ [TL.numL r]).reverse.map SX.S).map (·.length)).sum + ((gs ++ [TL.numL r]).reverse.map SX.S).length * (Str.ofString "").length ≤ 16777216 := by
          rw [SX.lens, ← List.length_flatten, hfl, show (Str.ofString "").length = 0 by decide +kernel, Nat.mul_zero, Nat.add_zero]
          omega
        refine ⟨_, rfl, .inl ⟨rfl, _, SqL.of hl⟩, _, rfl, _, rfl, hlog, _, _, _, rfl, rfl, hl, (by rw [List.length_map, List.length_map]; exact small1000 (by omega)), ?_⟩
        refine ⟨_, rfl, .inl ⟨rfl, _, SqL.of upd_same⟩, _, _, rfl, rfl, upd_same, ?_⟩
        have s3 : ∀ (o1 o2 : HO), Same H (upd (upd H2 l o1) l o2) := fun o1 o2 b u e => by
          rw [upd_ne (ne_of_none e nl), upd_ne (ne_of_none e nl)]
          exact sm b u e
        have s4 := s3 (.lst ((gs.map SX.S).map V.str ++ [V.str (Str.ofString (toString (r : Int)))])) (.lst ((gs.map SX.S).map V.str ++ [V.str (Str.ofString (toString (r : Int)))]).reverse)
        have hl5 : upd (upd H2 l (.lst ((gs.map SX.S).map V.str ++ [V.str (Str.ofString (toString (r : Int)))]))) l (.lst ((gs.map SX.S).map V.str ++ [V.str (Str.ofString (toString (r : Int)))]).reverse) l = some (.lst (((gs ++ [TL.numL r]).reverse.map SX.S).map V.str)) := by
          rw [upd_same, hf2]
        generalize upd (upd H2 l (.lst ((gs.map SX.S).map V.str ++ [V.str (Str.ofString (toString (r : Int)))]))) l (.lst ((gs.map SX.S).map V.str ++ [V.str (Str.ofString (toString (r : Int)))]).reverse) = H5 at s4 hl5
        refine ⟨fun σ H6 => H6 = H5 ∧ ∃ sg : Str, σ = [some (.int n), some (.int (r : Int)), some (.ref l), z, some (.str sg)] ∧ sg ++ SX.S (TL.numL n.natAbs) = SX.S (intL n) ∧ sg.length ≤ 1, ?_, ?_⟩
        · refine ⟨_, rfl, _, _, rfl, rfl, _, rfl, ?_⟩
          refine ite2 (fun c => ?_) (fun c => ?_)
          · exact ⟨rfl, _, rfl, str_neg (of_decide_eq_true c), (by decide +kernel)⟩
          · exact ⟨rfl, _, rfl, str_pos (of_decide_eq_false (by simpa using c)), (by decide +kernel)⟩
        · rintro σ H6 ⟨rfl, sg, rfl, hsg, hsl⟩
          refine ⟨_, rfl, rfl, _, rfl, _, _, _, rfl, rfl, .inl (SqL.of hl5), hsz, ?_⟩
          refine ⟨_, _, rfl, rfl, ?_, ?_⟩
          · rw [hj, SX.S_len]
            exact Nat.le_trans (show sg.length + (TL.numL n.natAbs).length ≤ 6000 by omega) (by decide)
          · rw [hj, hsg]
            exact q _ s4
    · intro σ H' Q1 Q2 hq h
      obtain ⟨v, h1, i, j, e1, e2, k, e3, h3⟩ := h
      exact ⟨v, h1, i, j, e1, e2, k, e3, hq _ _ h3⟩
end

def repL (n : Nat) (a : List Nat) : List Nat := (List.replicate n a).flatten
theorem fold_cat : ∀ (n : Nat) (a : List Nat) (z : Array Nat), ((List.replicate n (SX.S a).cps).foldl (· ++ ·) z).toList = z.toList ++ repL n a
  | 0, a, z => by
    show z.toList = z.toList ++ []
    rw [List.append_nil]
  | n + 1, a, z => by
    show ((List.replicate n (SX.S a).cps).foldl (· ++ ·) (z ++ (SX.S a).cps)).toList = _
    rw [fold_cat n a, Array.toList_append]
    show z.toList ++ a ++ repL n a = z.toList ++ (a ++ repL n a)
    rw [List.append_assoc]
theorem mulS (a : List Nat) (n : Nat) : Txt.mul (SX.S a) (n : Int) = SX.S (repL n a) := by
  unfold Txt.mul
  split
  · rename_i h
    have : n = 0 := by omega
    subst this
    rfl
  · split
    · rename_i h h2
      rw [Bool.or_eq_true, beq_iff_eq, beq_iff_eq, SX.S_len] at h2
      rcases h2 with h2 | h2
      · have : n = 1 := by omega
        subst this
        show SX.S a = SX.S (a ++ [])
        rw [List.append_nil]
      · have : a = [] := List.length_eq_zero_iff.mp h2
        subst this
        have : repL n [] = [] := by
          unfold repL
          induction n with
          | zero => rfl
          | succ n ih =>
            rw [List.replicate_succ, List.flatten_cons, List.nil_append]
            cases n with
            | zero => rfl
            | succ n => exact ih (by omega)
        rw [this]
    · apply TL.ext_tl
      show ((List.replicate ((n : Int)).toNat (SX.S a).cps).foldl (· ++ ·) #[]).toList = repL n a
      rw [Int.toNat_natCast, fold_cat]
      rfl
theorem op_mul_strI {X : Cx} : OpR X (binaryOp .Mult) (fun x y H Q => ∃ (a : List Nat) (n : Nat), x = tx a ∧ y = .int (n : Int) ∧ n ≤ 10000 ∧ a.length ≤ 1000 ∧ Q (tx (repL n a)) H) := by
  intro pins s σ H x y v u Q I rx ry h
  obtain ⟨a, n, rfl, rfl, h1, h2, q⟩ := h
  obtain ⟨t, rfl⟩ := rx
  obtain ⟨t', rfl⟩ := ry
  have p63 : (2 : Int) ^ 63 = 9223372036854775808 := by decide
  refine PySem.SB.mul ⟨?_, fun h3 _ => ?_, fun _ _ => ?_⟩ fun t' k => ?_
  · rw [p63, decide_eq_false (by omega), decide_eq_false (by omega)]
    rfl
  · rw [SX.S_len, p63]
    have h4 : (9223372036854775808 - 1) / (n : Int) ≥ 922337203685477 := by
      rw [ge_iff_le, Int.le_ediv_iff_mul_le (by omega)]
      omega
    omega
  · rw [SX.S_len, Int.toNat_natCast]
    unfold Builtin.Str.tooLong
    rw [decide_eq_false]
    have : a.length * n ≤ 1000 * 10000 := Nat.mul_le_mul h2 h1
    exact Nat.not_lt.mpr (Nat.le_trans this (by decide))
  · rw [mulS]
    exact ⟨.str _, H, I.tok _, ⟨_, rfl⟩, q⟩
theorem rep_zero (n : Nat) (c : Nat) : repL n [c] = List.replicate n c := by
  unfold repL
  induction n with
  | zero => rfl
  | succ n ih => rw [List.replicate_succ, List.flatten_cons, ih, List.replicate_succ]; rfl
theorem dv_zeros : ∀ n : Nat, NumText.digitsVal (List.replicate n 48) = 0
  | 0 => rfl
  | n + 1 => by
    have e := dv_app [48] (List.replicate n 48)
    rw [List.singleton_append] at e
    rw [List.replicate_succ, e, dv_zeros n, dv_one]
    simp
theorem dv_pow (n : Nat) : NumText.digitsVal (49 :: repL n [48]) = 10 ^ n := by
  have e := dv_app [49] (repL n [48])
  rw [List.singleton_append] at e
  rw [e, dv_one, rep_zero, dv_zeros, List.length_replicate]
  omega
theorem pow10_2000 {k : Nat} (h : k ≤ 2000) : 10 ^ k < 2 ^ 8000 := Nat.lt_of_le_of_lt (Nat.pow_le_pow_right (by decide) h) (by decide +kernel)
theorem log_gcd {t m : Nat} (h : m ≠ 0) (hB : m < 2 ^ 8000) : (Nat.gcd t m).log2 < 9000 := by
  have h1 : Nat.gcd t m ≤ m := Nat.le_of_dvd (by omega) (Nat.gcd_dvd_right t m)
  have h2 := PySem.Flt.log2_lt_of (n := Nat.gcd t m) (by decide) (show Nat.gcd t m < 2 ^ 8000 from Nat.lt_of_le_of_lt h1 hB)
  exact Nat.lt_trans h2 (by decide)
/-- a product, a quotient that needs no common divisor -/
theorem nt_one {t m : Int} (h : 0 < m) (g : Int.gcd t m = 1) : nt t m = t := by
  unfold nt
  rw [if_neg (by omega), g]
  exact Int.ediv_one t
theorem nb_one {t m : Int} (h : 0 < m) (g : Int.gcd t m = 1) : nb t m = m := by
  unfold nb
  rw [g]
  show (m.natAbs : Int) / 1 = m
  rw [Int.ediv_one]
  omega
def ratL (z : Int × Int) : List Nat := if z.2 = 1 then intL z.1 else intL z.1 ++ 47 :: intL z.2
def spRatText (K : PySem.W.Frag) : Sp := fun vs H Q _ => ∃ (x : V) (z : Int × Int), vs = [x] ∧ Nv K H x z ∧ z.1.natAbs < 10 ^ 5000 ∧ z.2.natAbs < 10 ^ 5000 ∧ ∀ H', Same H H' → Q (tx (ratL z)) H'
/-- what is asked of a text, so that its number is read: few digits, or no great common divisor -/
def Rok (l : List Nat) : Prop := l.length ≤ 4990 ∧ ∀ a b : List Nat, NumText.AllDigits a → NumText.AllDigits b → (unsg l = a ++ 47 :: b → NumText.digitsVal b ≠ 0 → (Nat.gcd (NumText.digitsVal a) (NumText.digitsVal b)).log2 < 9000) ∧ (unsg l = a ++ 46 :: b → b.length ≤ 2000)
def spReadRat (C : Addr) : Sp := fun vs H Q E => ∃ l : List Nat, vs = [tx l] ∧ Rok l ∧ (∀ z p H', readL l = some z → Same H H' → H' p = some (.tup [.int z.1, .int z.2]) → Q (.ref p) H') ∧
  (readL l = none → ∀ dx H', Same H H' → H' dx = some (.xd [("text", tx l)]) → E (.ref C) (some dx) H')
section
variable {P : Program} {w : World} {K : PySem.W.Frag} {mg : Str → Option Value} {base : Heap}
theorem ok_ratio_text {C : Addr} (GA : Kn P w K mg base (L2.CX P w) "as_ratio" 3 ["value"] (spAsRatio K C)) (GI : Kn P w K mg base CX0 "integer_text" 1 ["number"] spIntText) (D : Df K mg "ratio_text" s_ratio_text ["number"]) :
    Kn P w K mg base CX0 "ratio_text" 4 ["number"] (spRatText K) := by
  obtain ⟨f, fd, F, hm, hb⟩ := D
  obtain ⟨f_as_ratio, fd_as_ratio, G_as_ratio, m_as_ratio, k_as_ratio, b_as_ratio⟩ := GA
  obtain ⟨f_integer_text, fd_integer_text, G_integer_text, m_integer_text, k_integer_text, b_integer_text⟩ := GI
  refine ⟨f, fd, F.ok sc_ratio_text (fun vs H Q E h => ?_) (fun cdv A outer s H vs Q E hr h => ?_), hm, F.kp, hb⟩
  · obtain ⟨x, z, rfl, _⟩ := h
    rfl
  · obtain ⟨x, z, rfl, hx, z1, z2, q⟩ := h
    have rz := hx.red
    refine ⟨_, (pss_cons (ps_asg (pe_call G_as_ratio (hr.mono (by omega)) rfl m_as_ratio k_as_ratio b_as_ratio .nil passL (pa_cons (pv 0) pa_nil)) (pg_tup (by rfl) (pgs_cons (pg_name (i := 1) sc_ratio_text.nd rfl (Or.inl rfl)) (pgs_cons (pg_name (i := 2) sc_ratio_text.nd rfl (Or.inl rfl)) pgs_nil))))
      (pss_cons (ps_if (pt_cmpR op_eq (pv 2) pe_int (nomark _)) (pss_one (ps_ret (pe_call G_integer_text (hr.mono (by omega)) rfl m_integer_text k_integer_text b_integer_text .nil pass0 (pa_cons (pv 1) pa_nil)))) pss_nil)
      (pss_one (ps_ret (pe_op op_add_str (pe_op op_add_str (pe_call G_integer_text (hr.mono (by omega)) rfl m_integer_text k_integer_text b_integer_text .nil pass0 (pa_cons (pv 1) pa_nil)) pe_str) (pe_call G_integer_text (hr.mono (by omega)) rfl m_integer_text k_integer_text b_integer_text .nil pass0 (pa_cons (pv 2) pa_nil))))))), ?_⟩
    obtain ⟨d1, hd1, e1⟩ := hx
    refine ⟨_, rfl, x, d1, rfl, hd1, fun t m r H1 e s1 hr1 => ?_, fun e => by rw [e1] at e; cases e⟩
    obtain rfl : z = (t, m) := Option.some.inj (e1.symm.trans e)
    obtain ⟨p1, rfl, hp1⟩ := dp_rat_inv hr1
    refine ⟨p1, _, rfl, hp1, rfl, .int t, _, rfl, .int m, _, rfl, rfl, ?_⟩
    refine ⟨_, rfl, rfl, _, rfl, ?_⟩
    refine ite2 (fun c => ?_) (fun c => ?_)
    · have e : m = 1 := by
        have z := of_decide_eq_true c
        injection z
      refine ⟨_, rfl, t, rfl, z1, fun H2 s2 => ?_⟩
      have e2 : ratL (t, m) = intL t := if_pos e
      rw [← e2]
      exact q H2 (s1.trans s2)
    · have e : m ≠ 1 := fun z => c (by rw [z]; rfl)
      refine ⟨_, rfl, t, rfl, z1, fun H2 s2 => ?_⟩
      have lt1 : (intL t).length ≤ 5001 := intL_len z1
      have lt2 : (intL m).length ≤ 5001 := intL_len z2
      have es : SX.S (intL t) ++ Str.ofString "/" = SX.S (intL t ++ [47]) := by rw [show Str.ofString "/" = SX.S [47] by decide +kernel, SX.S_cat]
      refine ⟨_, _, rfl, rfl, ?_, _, rfl, m, rfl, z2, fun H3 s3 => ⟨_, _, rfl, rfl, ?_, ?_⟩⟩
      · rw [SX.S_len, show (Str.ofString "/").length = 1 by decide +kernel]
        exact Nat.le_trans (show (intL t).length + 1 ≤ 6000 by omega) (by decide)
      · rw [es, SX.S_len, SX.S_len, List.length_append]
        exact Nat.le_trans (show (intL t).length + 1 + (intL m).length ≤ 12000 by omega) (by decide)
      · have e2 : SX.S (intL t) ++ Str.ofString "/" ++ SX.S (intL m) = SX.S (ratL (t, m)) := by
          rw [es, SX.S_cat]
          show _ = SX.S (if m = 1 then intL t else intL t ++ 47 :: intL m)
          rw [if_neg e, List.append_assoc]
          rfl
        rw [e2]
        exact q H3 (s1.trans (s2.trans s3))
theorem ok_errinitT {x : Str} {C f : Addr} {fd : FuncData} (F : Fun K "__init__" x s_InvalidText_init f fd) (ox : OexC K C) (no : PySem.W.findIn K (.ref C) "text" = some none) : FnOk P w K mg base CX0 1 f fd ["self", "text"] (spErrInit C "text") := by
  refine F.ok sc_InvalidText_init (fun vs H Q E h => ?_) (fun cdv A outer s H vs Q E hr h => ?_)
  · obtain ⟨e, v, rfl, _⟩ := h
    rfl
  · obtain ⟨e, v, rfl, he, q⟩ := h
    refine ⟨_, pss_one (ps_ost (pv 0) (pv 1)), ?_⟩
    exact ⟨_, rfl, _, rfl, e, C, rfl, ox, no, .inl ⟨he, fun dx h1 h2 => q dx h1 h2⟩⟩
theorem ok_read_ratio {C Cz : Addr} (T : Bt mg) (Ti : ErrF P w K mg base "InvalidText" "text" C) (GD : Kn P w K mg base CX0 "are_digits" 1 ["text"] spAreDigits) (GN : Kn P w K mg base CX0 "read_digits" 1 ["digits"] spReadDigits)
    (GR : Kn1 P w K mg base (L2.CX P w) "ratio" 1 ["top", "bottom"] (spRatio Cz)) (D : Df K mg "read_ratio" s_read_ratio ["text"]) :
    Kn P w K mg base (L2.CX P w) "read_ratio" 3 ["text"] (spReadRat C) := by
  obtain ⟨f, fd, F, hm, hb⟩ := D
  obtain ⟨f_are_digits, fd_are_digits, G_are_digits, m_are_digits, k_are_digits, b_are_digits⟩ := GD
  obtain ⟨f_read_digits, fd_read_digits, G_read_digits, m_read_digits, k_read_digits, b_read_digits⟩ := GN
  obtain ⟨f_ratio, fd_ratio, G_ratio, m_ratio, k_ratio, b_ratio, _⟩ := GR
  obtain ⟨fI, fdI, iC, tI, F1, b1⟩ := Ti.ini
  refine ⟨f, fd, F.okX sc_read_ratio (fun vs H Q E h => ?_) (fun cdv A outer s H vs Q E hr h => ?_), hm, F.kp, hb⟩
  · obtain ⟨l, rfl, _⟩ := h
    rfl
  · obtain ⟨l, rfl, ⟨hlen, hg⟩, q, qe⟩ := h
    refine ⟨_, (pss_cons (ps_set (i := 1) sc_read_ratio.nd rfl (Or.inl rfl) (pe_bm PySem.F.plainAttrs_str PySem.F.slot_str_removeprefix PySem.F.type_str_removeprefix mt_removeprefix (pv 0) (pa_cons pe_str pa_nil)))
      (C8.pss_cut (ps_set (i := 2) sc_read_ratio.nd rfl (Or.inl rfl) (pe_ifExp (pt_cmpR op_in_str pe_str (pv 1) (by rfl)) pe_str pe_str))
      (pss_cons (ps_asg (pe_bm PySem.F.plainAttrs_str PySem.F.slot_str_partition PySem.F.type_str_partition mt_partition (pv 1) (pa_cons (pv 2) pa_nil)) (pg_tup (by rfl) (pgs_cons (pg_name (i := 3) sc_read_ratio.nd rfl (Or.inl rfl)) (pgs_cons (pg_name (i := 4) sc_read_ratio.nd rfl (Or.inl rfl)) (pgs_cons (pg_name (i := 5) sc_read_ratio.nd rfl (Or.inl rfl)) pgs_nil)))))
      (pss_cons (ps_if (PW.pt (pw_or (pt_not (pt_val (pe_call G_are_digits (hr.mono (by omega)) rfl m_are_digits k_are_digits b_are_digits .nil pass0 (pa_cons (pv 3) pa_nil)))) (pw_or1 (PW.pt (pw_and (pt_cmpR op_ne (pv 4) pe_str (nomark _)) (pw_and1 (pt_not (pt_val (pe_call G_are_digits (hr.mono (by omega)) rfl m_are_digits k_are_digits b_are_digits .nil pass0 (pa_cons (pv 5) pa_nil)))))))))) (pss_one (ps_raise rfl (takes_of rfl rfl rfl rfl) (pmk_oex Ti.ox iC tI F1 (hr.mono (by omega)) b1 .nil pass0 rfl Ti.gC (pa_cons (pv 0) pa_nil)))) pss_nil)
      (C8.pss_cut (ps_if (pt_cmpR op_eq (pv 4) pe_str (nomark _)) (pss_one (ps_par (i := 6) (j := 7) (by rfl) sc_read_ratio.nd rfl rfl (by decide) rfl rfl (pa_cons (pe_call G_read_digits (hr.mono (by omega)) rfl m_read_digits k_read_digits b_read_digits .nil pass0 (pa_cons (pv 3) pa_nil)) (pa_cons (pe_call G_read_digits (hr.mono (by omega)) rfl m_read_digits k_read_digits b_read_digits .nil pass0 (pa_cons (pv 5) pa_nil)) pa_nil)) (by rfl))) (pss_one (ps_par (i := 6) (j := 7) (by rfl) sc_read_ratio.nd rfl rfl (by decide) rfl rfl (pa_cons (pe_call G_read_digits (hr.mono (by omega)) rfl m_read_digits k_read_digits b_read_digits .nil pass0 (pa_cons (pe_op op_add_str (pv 3) (pv 5)) pa_nil)) (pa_cons (pe_call G_read_digits (hr.mono (by omega)) rfl m_read_digits k_read_digits b_read_digits .nil pass0 (pa_cons (pe_op op_add_str pe_str (pe_op op_mul_strI pe_str (pe_callB call_len_str (by rfl) T.n_len (by decide +kernel) (pa_cons (pv 5) pa_nil)))) pa_nil)) pa_nil)) (by rfl))))
      (pss_cons (ps_if (pt_cmpR op_eq (pv 7) pe_int (nomark _)) (pss_one (ps_raise rfl (takes_of rfl rfl rfl rfl) (pmk_oex Ti.ox iC tI F1 (hr.mono (by omega)) b1 .nil pass0 rfl Ti.gC (pa_cons (pv 0) pa_nil)))) pss_nil)
      (pss_one (ps_ret (pe_call G_ratio (hr.mono (by omega)) rfl m_ratio k_ratio b_ratio .nil (passes_call (takes_of rfl rfl rfl rfl) (fun _ _ _ _ h => h)) (pa_cons (pe_ifExp (pt_val (pe_bm PySem.F.plainAttrs_str PySem.F.slot_str_startswith PySem.F.type_str_startswith mt_startswith (pv 0) (pa_cons pe_str pa_nil))) (pe_un un_neg (pv 6)) (pv 6)) (pa_cons (pv 7) pa_nil))))))))))), ?_⟩
    have hul : (unsg l).length ≤ l.length := by
      unfold unsg
      split
      · exact Nat.le_succ _
      · exact Nat.le_refl _
    have fit : ∀ {n : Nat}, n ≤ 5000 → n ≤ sizeLine := fun h => Nat.le_trans h (by decide)
    refine ⟨_, rfl, rfl, _, _, rfl, rfl, (by rw [SX.S_len]; exact fit (by omega)), ?_⟩
    have slash : Str.ofString "/" = SX.S [47] := by decide +kernel
    have dot : Str.ofString "." = SX.S [46] := by decide +kernel
    have emp : Str.ofString "" = SX.S [] := by decide +kernel
    obtain ⟨u, hu⟩ : ∃ u, unsg l = u := ⟨_, rfl⟩
    have hpre : Txt.removeprefix (SX.S l) (Str.ofString "-") = SX.S u := by rw [← hu]; exact prefixS l
    rw [hu] at hul
    have hread : readL l = readU l u := by unfold readL; rw [hu]
    refine ⟨fun σ H2 => H = H2 ∧ ∃ (us ms : Str) (c : Nat), σ = [some (tx l), some (.str us), some (.str ms), none, none, none, none, none] ∧ us = SX.S u ∧ ms = SX.S [c] ∧ ((c = 47 ∧ 47 ∈ u) ∨ (c = 46 ∧ 47 ∉ u)), ?_, ?_⟩
    · refine ⟨_, rfl, _, _, rfl, rfl, _, rfl, ?_⟩
      have ein : (!(Builtin.Str.occurrences (Txt.removeprefix (SX.S l) (Str.ofString "-")) (Str.ofString "/") 0 (Txt.removeprefix (SX.S l) (Str.ofString "-")).length 1).isEmpty) = decide (47 ∈ u) := by
        rw [hpre, slash]
        exact SX.in_one u 47
      refine ite2 (fun c => ?_) (fun c => ?_)
      · have c1 := ein.symm.trans c
        exact ⟨rfl, _, _, 47, rfl, hpre, slash, .inl ⟨rfl, of_decide_eq_true c1⟩⟩
      · have c1 := ein.symm.trans (Bool.eq_false_iff.mpr c)
        exact ⟨rfl, _, _, 46, rfl, hpre, dot, .inr ⟨rfl, of_decide_eq_false c1⟩⟩
    · rintro σ H2 ⟨rfl, us, ms, c, rfl, rfl, rfl, hc⟩
      have c46 : c = 46 ∨ c = 47 := by rcases hc with h | h; exact .inr h.1; exact .inl h.1
      have cD : isD c = false := by rcases c46 with rfl | rfl <;> rfl
      have hpart : ∃ a fo b, Txt.partition (SX.S u) (SX.S [c]) = (SX.S a, SX.S fo, SX.S b) ∧ ((fo = [c] ∧ u = a ++ c :: b ∧ c ∉ a) ∨ (fo = [] ∧ a = u ∧ b = [] ∧ c ∉ u)) := by
        by_cases hm : c ∈ u
        · obtain ⟨a, b, e, hn⟩ := List.eq_append_cons_of_mem hm
          refine ⟨a, [c], b, SX.partition_some (List.cons_ne_nil _ _) ?_, .inl ⟨rfl, e, hn⟩⟩
          rw [e]
          exact SX.par_head (sep := []) b hn
        · exact ⟨u, [], [], SX.partition_none (List.cons_ne_nil _ _) (SX.par_head_none (sep := []) hm), .inr ⟨rfl, rfl, rfl, hm⟩⟩
      obtain ⟨a, fo, b, hP, hcase⟩ := hpart
      refine ⟨_, rfl, rfl, _, rfl, _, _, rfl, rfl, (by rw [SX.S_len]; rfl), (by rw [SX.S_len]; exact fit (by omega)), ?_⟩
      rw [hP]
      intro p np
      have s1 := same_new np (.tup [V.str (SX.S a), V.str (SX.S fo), V.str (SX.S b)])
      refine ⟨_, _, rfl, SqT.of upd_same, rfl, ?_⟩
      refine ⟨_, _, rfl, _, _, rfl, _, _, rfl, rfl, ?_⟩
      refine ⟨_, rfl, a, rfl, _, rfl, ?_⟩
      have hal : a.length ≤ u.length := by
        rcases hcase with ⟨_, e, _⟩ | ⟨_, e, _⟩
        · rw [e, List.length_append]; omega
        · rw [e]; exact Nat.le_refl _
      have hbl : a.length + b.length ≤ u.length := by
        rcases hcase with ⟨_, e, _⟩ | ⟨_, e, e2, _⟩
        · rw [e, List.length_append, List.length_cons]; omega
        · rw [e, e2]; exact Nat.le_refl _
      refine ite2 (fun c1 => ?_) (fun c1 => ?_)
      · have hna : digs a = false := by
          have z : (!digs a) = true := c1
          rw [Bool.not_eq_true'] at z
          exact z
        have hno : readL l = none := by
          rw [hread]
          rcases hcase with ⟨_, e, hn⟩ | ⟨_, e, _, hn⟩
          · exact readU_bad e hn c46 (fun z => by rw [hna] at z; exact absurd z.1 Bool.false_ne_true)
          · rw [e] at hna
            have h47 : 47 ∉ u := by rcases hc with h | h; rw [h.1] at hn; exact hn; exact h.2
            have h46 : 46 ∉ u := by rcases hc with h | h; rw [h.1] at hn; exact absurd h.2 hn; rw [h.1] at hn; exact hn
            exact readU_nomark h46 h47 hna
        refine ⟨_, rfl, (by show 1 ≤ 1000; decide), fun ea na => ?_⟩
        refine ⟨ea, _, rfl, upd_same, fun dx hdx nx => ⟨rfl, dx, [("text", tx l)], upd_same, ?_, ?_, ?_⟩⟩
        · rw [upd_ne nx, upd_same]
        · rw [upd_ne nx] at hdx
          exact hdx
        · rw [upd_ne nx] at hdx
          refine qe hno dx _ (s1.trans fun b o hbo => ?_) upd_same
          have n1 : b ≠ ea := ne_of_none hbo na
          have n2 : b ≠ dx := ne_of_none hbo hdx
          rw [upd_ne n2, del_ne n1, upd_ne n1, upd_ne n2, upd_ne n1]
          exact hbo
      · have hda : digs a = true := by
          cases z : digs a with
          | true => rfl
          | false => exact absurd (show (!digs a) = true by rw [z]; rfl) c1
        have ada := (digs_iff.mp hda).2
        have one : Str.ofString "1" = SX.S [49] := by decide +kernel
        have la : a.length ≤ 5000 := by omega
        have lb : b.length ≤ 5000 := by omega
        have elseP : ∀ (db : NumText.AllDigits b) (lb2 : b.length ≤ 4000), NumText.AllDigits (a ++ b) ∧ (a ++ b).length ≤ 5000 ∧ NumText.AllDigits (49 :: repL b.length [48]) ∧ (49 :: repL b.length [48]).length ≤ 5000 := fun db lb2 => by
          refine ⟨ad_app.mpr ⟨ada, db⟩, by rw [List.length_append]; omega, ?_, ?_⟩
          · intro x hx
            rcases List.mem_cons.mp hx with rfl | hx
            · decide
            · rw [rep_zero] at hx
              rw [(List.mem_replicate.mp hx).2]
              decide
          · rw [List.length_cons, rep_zero, List.length_replicate]
            omega
        rcases hcase with ⟨rfl, e, hn⟩ | ⟨rfl, e, rfl, hn⟩
        · refine ⟨_, rfl, rfl, _, rfl, ?_⟩
          refine ite2 (fun c2 => ?_) (fun c2 => ?_)
          · refine ⟨_, rfl, b, rfl, _, rfl, ?_⟩
            refine ite2 (fun c3 => ?_) (fun c3 => ?_)
            · have hnb : digs b = false := by
                have z : (!digs b) = true := c3
                rw [Bool.not_eq_true'] at z
                exact z
              have hno : readL l = none := by
                rw [hread]
                exact readU_bad e hn c46 (fun z => by rw [hnb] at z; exact absurd z.2 Bool.false_ne_true)
              refine ⟨_, rfl, (by show 1 ≤ 1000; decide), fun ea na => ?_⟩
              refine ⟨ea, _, rfl, upd_same, fun dx hdx nx => ⟨rfl, dx, [("text", tx l)], upd_same, ?_, ?_, ?_⟩⟩
              · rw [upd_ne nx, upd_same]
              · rw [upd_ne nx] at hdx
                exact hdx
              · rw [upd_ne nx] at hdx
                refine qe hno dx _ (s1.trans fun b o hbo => ?_) upd_same
                have n1 : b ≠ ea := ne_of_none hbo na
                have n2 : b ≠ dx := ne_of_none hbo hdx
                rw [upd_ne n2, del_ne n1, upd_ne n1, upd_ne n2, upd_ne n1]
                exact hbo
            · have hdb : digs b = true := by
                cases z : digs b with
                | true => rfl
                | false => exact absurd (show (!digs b) = true by rw [z]; rfl) c3
              have adb := (digs_iff.mp hdb).2
              have hrd := readU_mark (l := l) e ada cD
              rw [if_pos ⟨hda, hdb⟩] at hrd
              refine ⟨fun σ H2 => H2 = upd H p (.tup [V.str (SX.S a), V.str (SX.S [c]), V.str (SX.S b)]) ∧ ∃ (x1 x2 x3 x4 x5 : Option V) (t m : Nat), σ = [some (tx l), x1, x2, x3, x4, x5, some (.int (t : Int)), some (.int (m : Int))] ∧ readL l = (if m = 0 then none else some (nrm (sgnd l t) (m : Int))) ∧ (m ≠ 0 → (Nat.gcd t m).log2 < 9000), ?_, ?_⟩
              · refine ⟨_, rfl, rfl, _, rfl, ?_⟩
                refine ite2 (fun c4 => ?_) (fun c4 => ?_)
                · have ec : c = 47 := by
                    have z := of_decide_eq_true c4
                    injection z with z
                    rw [slash] at z
                    exact (List.cons.inj (SX.S_inj z)).1
                  subst ec
                  refine ⟨_, rfl, a, rfl, ada, la, _, rfl, b, rfl, adb, lb, _, _, rfl, rfl, _, _, _, _, _, _, _, rfl, ?_, fun hm => (hg a b ada adb).1 (hu.trans e) hm⟩
                  rw [hread, hrd]
                  rfl
                · have ec : c = 46 := by
                    rcases c46 with h | h
                    · exact h
                    · rw [h, slash] at c4
                      exact absurd (decide_eq_true rfl) c4
                  subst ec
                  have lb2 := (hg a b ada adb).2 (hu.trans e)
                  obtain ⟨g1, g2, g3, g4⟩ := elseP adb (by omega)
                  refine ⟨_, rfl, _, rfl, _, _, rfl, rfl, (by rw [SX.S_len, SX.S_len]; exact fit (by omega)), a ++ b, (by rw [SX.S_cat]; rfl), g1, g2, _, rfl, _, rfl, (by rw [SX.S_len]; exact fit (by omega)), [48], List.length b, (congrArg V.str zero_S), (by rw [SX.S_len]), (by omega), (by decide), _, _, rfl, rfl, ?_, 49 :: repL (List.length b) [48], (by rw [one, SX.S_cat]; rfl), g3, g4, _, _, rfl, rfl, _, _, _, _, _, _, _, rfl, ?_, fun hm => ?_⟩
                  · rw [one, SX.S_len, SX.S_len, rep_zero, List.length_replicate]
                    exact fit (show 1 + _ ≤ 5000 by omega)
                  · rw [dv_pow, if_neg (Nat.ne_of_gt (Nat.pow_pos (by decide))), hread, hrd]
                    rfl
                  · rw [dv_pow] at hm ⊢
                    exact log_gcd hm (pow10_2000 lb2)
              · rintro σ H2 ⟨rfl, x1, x2, x3, x4, x5, t, m, rfl, hrl, hgm⟩
                refine ⟨_, rfl, rfl, _, rfl, ?_⟩
                refine ite2 (fun c5 => ?_) (fun c5 => ?_)
                · have m0 : m = 0 := by
                    have z := of_decide_eq_true c5
                    injection z with z
                    omega
                  have hno : readL l = none := by rw [hrl, if_pos m0]
                  refine ⟨_, rfl, (by show 1 ≤ 1000; decide), fun ea na => ?_⟩
                  refine ⟨ea, _, rfl, upd_same, fun dx hdx nx => ⟨rfl, dx, [("text", tx l)], upd_same, ?_, ?_, ?_⟩⟩
                  · rw [upd_ne nx, upd_same]
                  · rw [upd_ne nx] at hdx
                    exact hdx
                  · rw [upd_ne nx] at hdx
                    refine qe hno dx _ (s1.trans fun b o hbo => ?_) upd_same
                    have n1 : b ≠ ea := ne_of_none hbo na
                    have n2 : b ≠ dx := ne_of_none hbo hdx
                    rw [upd_ne n2, del_ne n1, upd_ne n1, upd_ne n2, upd_ne n1]
                    exact hbo
                · have m0 : m ≠ 0 := fun z => c5 (by rw [z]; rfl)
                  rw [if_neg m0] at hrl
                  have g0 := hgm m0
                  refine ⟨_, rfl, rfl, _, _, rfl, rfl, _, rfl, ?_⟩
                  have es := startsS l
                  refine ite2 (fun c6 => ?_) (fun c6 => ?_)
                  · have en : sgnd l t = -(t : Int) := if_pos (es.symm.trans c6)
                    rw [en] at hrl
                    refine ⟨_, rfl, _, rfl, _, rfl, _, _, rfl, fun _ => ?_, fun _ p2 H3 s3 h3 => ?_, fun z => absurd z (by omega)⟩
                    · show (Nat.gcd (-(t : Int)).natAbs (m : Int).natAbs).log2 < 9000
                      rw [Int.natAbs_neg, Int.natAbs_natCast, Int.natAbs_natCast]
                      exact g0
                    · exact q _ p2 H3 hrl (s1.trans s3) h3
                  · have en : sgnd l t = (t : Int) := if_neg (fun z => c6 (es.trans z))
                    rw [en] at hrl
                    refine ⟨_, rfl, _, rfl, _, _, rfl, fun _ => ?_, fun _ p2 H3 s3 h3 => ?_, fun z => absurd z (by omega)⟩
                    · show (Nat.gcd (t : Int).natAbs (m : Int).natAbs).log2 < 9000
                      rw [Int.natAbs_natCast, Int.natAbs_natCast]
                      exact g0
                    · exact q _ p2 H3 hrl (s1.trans s3) h3
          · exfalso
            refine c2 ?_
            rw [Bool.not_eq_true', decide_eq_false_iff_not, emp]
            intro z
            injection z with z
            exact absurd (SX.S_inj z) (List.cons_ne_nil _ _)
        · refine ⟨_, rfl, rfl, _, rfl, ?_⟩
          refine ite2 (fun c2 => ?_) (fun _ => ?_)
          · exfalso
            rw [Bool.not_eq_true', decide_eq_false_iff_not, emp] at c2
            exact c2 rfl
          · have hdu : digs u = true := by rw [← e]; exact hda
            refine ⟨fun σ H2 => H2 = upd H p (.tup [V.str (SX.S a), V.str (SX.S []), V.str (SX.S [])]) ∧ ∃ (x1 x2 x3 x4 x5 : Option V) (t m : Nat), σ = [some (tx l), x1, x2, x3, x4, x5, some (.int (t : Int)), some (.int (m : Int))] ∧ readL l = (if m = 0 then none else some (nrm (sgnd l t) (m : Int))) ∧ (m ≠ 0 → (Nat.gcd t m).log2 < 9000), ?_, ?_⟩
            · refine ⟨_, rfl, rfl, _, rfl, ?_⟩
              refine ite2 (fun c4 => ?_) (fun c4 => ?_)
              · exfalso
                have z := of_decide_eq_true c4
                injection z with z
                rw [slash] at z
                exact absurd (SX.S_inj z).symm (List.cons_ne_nil _ _)
              · have lb2 : ([] : List Nat).length ≤ 2000 := Nat.zero_le _
                have adb : NumText.AllDigits [] := fun x hx => by cases hx
                obtain ⟨g1, g2, g3, g4⟩ := elseP adb (by omega)
                refine ⟨_, rfl, _, rfl, _, _, rfl, rfl, (by rw [SX.S_len, SX.S_len]; exact fit (by omega)), a ++ ([] : List Nat), (by rw [SX.S_cat]; rfl), g1, g2, _, rfl, _, rfl, (by rw [SX.S_len]; exact fit (by omega)), [48], List.length ([] : List Nat), (congrArg V.str zero_S), (by rw [SX.S_len]), (by omega), (by decide), _, _, rfl, rfl, ?_, 49 :: repL (List.length ([] : List Nat)) [48], (by rw [one, SX.S_cat]; rfl), g3, g4, _, _, rfl, rfl, _, _, _, _, _, _, _, rfl, ?_, fun hm => ?_⟩
                · rw [one, SX.S_len, SX.S_len, rep_zero, List.length_replicate]
                  exact fit (show 1 + _ ≤ 5000 by omega)
                · rw [dv_pow, if_neg (Nat.ne_of_gt (Nat.pow_pos (by decide))), hread, readU_digs hdu, List.append_nil, e]
                  rfl
                · rw [dv_pow] at hm ⊢
                  exact log_gcd hm (pow10_2000 lb2)
            · rintro σ H2 ⟨rfl, x1, x2, x3, x4, x5, t, m, rfl, hrl, hgm⟩
              refine ⟨_, rfl, rfl, _, rfl, ?_⟩
              refine ite2 (fun c5 => ?_) (fun c5 => ?_)
              · have m0 : m = 0 := by
                  have z := of_decide_eq_true c5
                  injection z with z
                  omega
                have hno : readL l = none := by rw [hrl, if_pos m0]
                refine ⟨_, rfl, (by show 1 ≤ 1000; decide), fun ea na => ?_⟩
                refine ⟨ea, _, rfl, upd_same, fun dx hdx nx => ⟨rfl, dx, [("text", tx l)], upd_same, ?_, ?_, ?_⟩⟩
                · rw [upd_ne nx, upd_same]
                · rw [upd_ne nx] at hdx
                  exact hdx
                · rw [upd_ne nx] at hdx
                  refine qe hno dx _ (s1.trans fun b o hbo => ?_) upd_same
                  have n1 : b ≠ ea := ne_of_none hbo na
                  have n2 : b ≠ dx := ne_of_none hbo hdx
                  rw [upd_ne n2, del_ne n1, upd_ne n1, upd_ne n2, upd_ne n1]
                  exact hbo
              · have m0 : m ≠ 0 := fun z => c5 (by rw [z]; rfl)
                rw [if_neg m0] at hrl
                have g0 := hgm m0
                refine ⟨_, rfl, rfl, _, _, rfl, rfl, _, rfl, ?_⟩
                have es := startsS l
                refine ite2 (fun c6 => ?_) (fun c6 => ?_)
                · have en : sgnd l t = -(t : Int) := if_pos (es.symm.trans c6)
                  rw [en] at hrl
                  refine ⟨_, rfl, _, rfl, _, rfl, _, _, rfl, fun _ => ?_, fun _ p2 H3 s3 h3 => ?_, fun z => absurd z (by omega)⟩
                  · show (Nat.gcd (-(t : Int)).natAbs (m : Int).natAbs).log2 < 9000
                    rw [Int.natAbs_neg, Int.natAbs_natCast, Int.natAbs_natCast]
                    exact g0
                  · exact q _ p2 H3 hrl (s1.trans s3) h3
                · have en : sgnd l t = (t : Int) := if_neg (fun z => c6 (es.trans z))
                  rw [en] at hrl
                  refine ⟨_, rfl, _, rfl, _, _, rfl, fun _ => ?_, fun _ p2 H3 s3 h3 => ?_, fun z => absurd z (by omega)⟩
                  · show (Nat.gcd (t : Int).natAbs (m : Int).natAbs).log2 < 9000
                    rw [Int.natAbs_natCast, Int.natAbs_natCast]
                    exact g0
                  · exact q _ p2 H3 hrl (s1.trans s3) h3
end

theorem alphaS (l : List Nat) : Txt.isalpha (SX.S l) = (decide (0 < l.length) && l.all Unicode.isAlpha) := by
  unfold Txt.isalpha
  simp [SX.S, Str.length]
theorem lowerS (l : List Nat) : Txt.islower (SX.S l) = (l.any Unicode.isLower && !l.any fun c => Unicode.isUpper c || Unicode.isTitle c) := by
  unfold Txt.islower
  simp [SX.S]

structure Ut9 (K : PySem.W.Frag) (mg : Str → Option Value) : Prop where
  n_str : mg "str" = none
  g_words : ∃ a, mg "FUNCTION_WORDS" = some (.ref a) ∧ ∀ H, SqT K H a [V.str "sum", V.str "average"]
  g_letters : ∃ t, mg "NAME_LETTERS" = some (.int 8 t)
mutual
/-- short texts, few parts -/
def shortD : PyData → Bool
  | .str x => decide (x.length ≤ 100)
  | .list ds => decide (ds.length ≤ 60) && shortDs ds
  | .tuple ds => decide (ds.length ≤ 60) && shortDs ds
  | _ => true
def shortDs : List PyData → Bool
  | [] => true
  | d :: ds => shortD d && shortDs ds
end
def spDS (K : PySem.W.Frag) (f : PyData → Bool) : Sp := fun vs H Q _ => ∃ (v : V) (d : PyData), vs = [v] ∧ Dp K H v d ∧ shortD d = true ∧ ∀ H', Same H H' → Q (.bl (f d)) H'
def nameD : PyData → Bool | .str x => nameL x.cps.toList | _ => false
theorem nameD_S (l : List Nat) : nameD (.str (SX.S l)) = nameL l := by
  show nameL (SX.S l).cps.toList = _
  simp [SX.S]
theorem words_in (l : List Nat) : inV (tx l) [V.str (Str.ofString "sum"), V.str (Str.ofString "average")] = decide (l = [115, 117, 109] ∨ l = [97, 118, 101, 114, 97, 103, 101]) := by
  show ((Str.ofString "sum" == SX.S l) || ((Str.ofString "average" == SX.S l) || false)) = _
  rw [show Str.ofString "sum" = SX.S [115, 117, 109] by decide +kernel, show Str.ofString "average" = SX.S [97, 118, 101, 114, 97, 103, 101] by decide +kernel, SX.S_beq_eq, SX.S_beq_eq, Bool.or_false]
  rw [Bool.eq_iff_iff, Bool.or_eq_true, decide_eq_true_eq, decide_eq_true_eq, decide_eq_true_eq]
  exact ⟨fun h => h.imp Eq.symm Eq.symm, fun h => h.imp Eq.symm Eq.symm⟩
section
variable {P : Program} {w : World} {K : PySem.W.Frag} {mg : Str → Option Value} {base : Heap}
theorem ok_is_name (T : Bt mg) (Tt : Ut9 K mg) (D : Df K mg "is_name" s_is_name ["value"]) : Kn P w K mg base CX0 "is_name" 1 ["value"] (spDS K nameD) := by
  obtain ⟨t8, hnl⟩ := Tt.g_letters
  obtain ⟨aw, hfw, sfw⟩ := Tt.g_words
  obtain ⟨f, fd, F, hm, hb⟩ := D
  refine ⟨f, fd, F.ok sc_is_name (fun vs H Q E h => ?_) (fun cdv A outer s H vs Q E hr h => ?_), hm, F.kp, hb⟩
  · obtain ⟨v, d, rfl, _⟩ := h
    rfl
  · obtain ⟨v, d, rfl, hd, hsh, q⟩ := h
    have q0 := q H (Same.refl H)
    refine ⟨_, (pss_cons (ps_if (PW.pt (pw_or (pt_not (pt_val (pe_callB (cr_isi (K := K) rfl) (by rfl) T.n_isinstance (by decide +kernel) (pa_cons (pv 0) (pa_cons (pe_bltn (v := .ty "str") (by rfl) Tt.n_str (by decide +kernel) rfl) pa_nil))))) (pw_or (pt_cmpR op_gt (pe_callB call_len_str (by rfl) T.n_len (by decide +kernel) (pa_cons (pv 0) pa_nil)) (pe_glob (v := .int 8) rfl hnl ⟨_, rfl⟩) (nomark _)) (pw_or1 (pt_cmpR op_in_seq (pv 0) (pe_glob (v := .ref aw) rfl hfw rfl) (by rfl)))))) (pss_one (ps_ret pe_bl)) pss_nil)
      (pss_one (ps_ret (pe_and (pe_bm0 PySem.F.plainAttrs_str PySem.F.slot_str_isascii PySem.F.type_str_isascii mt_isascii (pv 0)) (pe_and (pe_bm0 PySem.F.plainAttrs_str PySem.F.slot_str_isalpha PySem.F.type_str_isalpha mt_isalpha (pv 0)) (pe_one (pe_bm0 PySem.F.plainAttrs_str PySem.F.slot_str_islower PySem.F.type_str_islower mt_islower (pv 0)))))))), ?_⟩
    refine ⟨_, rfl, _, _, _, _, _, rfl, .ty _, dp_ty hd, kit_ty (kb_str d), _, rfl, ?_⟩
    refine ite2 (fun c => ?_) (fun c => ?_)
    · have e : nameD d = false := by cases d <;> first | rfl | cases c
      rw [e] at q0
      exact q0
    · obtain ⟨x, rfl⟩ : ∃ x, d = .str x := by cases d <;> first | exact ⟨_, rfl⟩ | exact absurd rfl c
      obtain ⟨l, rfl⟩ : ∃ l, x = SX.S l := ⟨x.cps.toList, (SX.S_tl x).symm⟩
      cases hd
      rw [nameD_S] at q0
      have hlen : l.length ≤ 100 := by
        have z := of_decide_eq_true (show decide ((SX.S l).length ≤ 100) = true from hsh)
        rw [SX.S_len] at z
        exact z
      have hsl : (SX.S l).length ≤ sizeLine := by rw [SX.S_len]; exact Nat.le_trans hlen (by decide)
      refine ⟨_, rfl, _, rfl, hsl, _, _, rfl, rfl, _, rfl, ?_⟩
      refine ite2 (fun c1 => ?_) (fun c1 => ?_)
      · have e : nameL l = false := by
          have z := of_decide_eq_true c1
          rw [SX.S_len] at z
          unfold nameL
          rw [show decide (l.length < 9) = false from decide_eq_false (by omega)]
          simp
        rw [e] at q0
        exact q0
      · refine ⟨_, rfl, aw, _, rfl, .inr (sfw _), rfl, rfl, _, rfl, ?_⟩
        have hw := words_in l
        have hl9 : decide (l.length < 9) = true := by
          have z := of_decide_eq_false (Bool.eq_false_iff.mpr c1)
          rw [SX.S_len] at z
          exact decide_eq_true (by omega)
        refine ite2 (fun c2 => ?_) (fun c2 => ?_)
        · have z := of_decide_eq_true (hw.symm.trans c2)
          have e : nameL l = false := by
            unfold nameL
            rcases z with z | z
            · rw [z]; rfl
            · rw [z]; rfl
          rw [e] at q0
          exact q0
        · have z := of_decide_eq_false (hw.symm.trans (Bool.eq_false_iff.mpr c2))
          have e : nameL l = (decide (l ≠ []) && l.all az) := by
            unfold nameL
            rw [hl9, decide_eq_true (p := l ≠ [115, 117, 109]) (fun y => z (.inl y)), decide_eq_true (p := l ≠ [97, 118, 101, 114, 97, 103, 101]) (fun y => z (.inr y))]
            rw [Bool.and_true, Bool.and_true, Bool.and_true]
          rw [e, ← small_signs] at q0
          refine ⟨_, rfl, rfl, _, rfl, rfl, trivial, _, rfl, ?_⟩
          rw [asciiS]
          refine ite2 (fun k1 => ?_) (fun k1 => ?_)
          · rw [if_pos k1] at q0
            refine ⟨_, rfl, rfl, _, rfl, rfl, trivial, _, rfl, ?_⟩
            rw [alphaS]
            refine ite2 (fun k2 => ?_) (fun k2 => ?_)
            · rw [if_pos k2] at q0
              refine ⟨_, rfl, rfl, _, rfl, rfl, trivial, ?_⟩
              rw [lowerS]
              exact q0
            · rw [if_neg k2] at q0
              exact q0
          · rw [if_neg k1] at q0
            exact q0
end

theorem ix_tupK {X : Cx} {K : PySem.W.Frag} (h : X.K = K) : IxR X (rIxT K) := by
  subst h
  exact ix_tup
/-- a comprehension over a text -/
theorem lc_str {l : List Nat} {g : TG} {tt : TT} {te : TE} {vs : List Nat} {σ : St} {H1 : Hp} {D : Addr} {Qd : Hp → Prop} (Pv : Nat → Hp → Prop) (h0 : Pv 0 (upd H1 D (.lst [])))
    (hs : ∀ i c H, l[i]? = some c → Pv i H → g (tx [c]) (wipe σ vs) H fun σ2 H2 => wipe σ2 vs = wipe σ vs ∧ tt σ2 H2 fun b H3 => if b = true then te σ2 H3 fun y H4 => ∃ acc, H4 D = some (.lst acc) ∧ acc.length < sizeLine ∧ Pv (i + 1) (upd H4 D (.lst (acc ++ [y]))) else Pv (i + 1) H3)
    (hd : ∀ H, Pv l.length H → Qd H) :
    ∃ W : Nat → Nat → Hp → Prop, (∃ m, W 0 m (upd H1 D (.lst []))) ∧ ∀ i m H, W i m H →
      ((Its (SX.S l)).stop i H ∧ Qd H) ∨ ((Its (SX.S l)).go i H ∧ ∃ Nx : Hp → Prop, (∀ H', Nx H' → ∃ m', m' < m ∧ W (i + 1) m' H') ∧ ∀ x H', (Its (SX.S l)).yld i H x H' → g x (wipe σ vs) H' fun σ2 H2 => wipe σ2 vs = wipe σ vs ∧ tt σ2 H2 fun b H3 => if b = true then te σ2 H3 fun y H4 => ∃ acc, H4 D = some (.lst acc) ∧ acc.length < sizeLine ∧ Nx (upd H4 D (.lst (acc ++ [y]))) else Nx H3) := by
  have hsz : (SX.S l).cps.size = l.length := by simp [SX.S]
  refine ⟨fun i m H => m = l.length - i ∧ i ≤ l.length ∧ Pv i H, ⟨l.length, by simp, Nat.zero_le _, h0⟩, ?_⟩
  rintro i m H ⟨rfl, hi, p⟩
  by_cases lt : i < l.length
  · refine .inr ⟨by show i < (SX.S l).cps.size; omega, Pv (i + 1), fun H' p' => ⟨l.length - (i + 1), by omega, rfl, lt, p'⟩, fun x H' y => ?_⟩
    obtain ⟨e, c, hc, rfl⟩ := y
    subst e
    exact hs i c _ (by rw [← hc]; simp [SX.S]) p
  · have e : i = l.length := by omega
    subst e
    exact .inl ⟨by show (SX.S l).cps.size ≤ l.length; omega, hd _ p⟩
theorem letters_S : Str.ofString "abcdefghijklmnopqrstuvwxyz" = SX.S [97, 98, 99, 100, 101, 102, 103, 104, 105, 106, 107, 108, 109, 110, 111, 112, 113, 114, 115, 116, 117, 118, 119, 120, 121, 122] := by decide +kernel
theorem az_mem (c : Nat) : decide (c ∈ [97, 98, 99, 100, 101, 102, 103, 104, 105, 106, 107, 108, 109, 110, 111, 112, 113, 114, 115, 116, 117, 118, 119, 120, 121, 122]) = az c := by
  unfold az
  rw [Bool.eq_iff_iff, decide_eq_true_eq, Bool.and_eq_true, decide_eq_true_eq, decide_eq_true_eq]
  simp only [List.mem_cons, List.not_mem_nil, or_false]
  omega

theorem op_notInK {X : Cx} {K : PySem.W.Frag} (h : X.K = K) : OpR X (compareOp .NotIn) (rIn K true) := by
  subst h
  exact op_notIn_seq
theorem Box.off {H : Hp} {b g c D : Addr} {n : Nat} {o : HO} (x : Box H b g c n) (h1 : D ≠ b) (h2 : D ≠ g) (h3 : D ≠ c) : Box (upd H D o) b g c n := by
  obtain ⟨gs, cs, cur, m, B, hm⟩ := x
  exact ⟨gs, cs, cur, m, ⟨by rw [upd_ne h1.symm]; exact B.hb, by rw [upd_ne h2.symm]; exact B.hg, by rw [upd_ne h3.symm]; exact B.hc, B.bg, B.bc, B.gc, B.m0, B.lg, B.lc⟩, hm⟩
theorem Box.ne {H : Hp} {b g c D : Addr} {n : Nat} (x : Box H b g c n) (h : H D = none) : D ≠ b ∧ D ≠ g ∧ D ≠ c := by
  obtain ⟨gs, cs, cur, m, B, hm⟩ := x
  exact ⟨(ne_of_none B.hb h).symm, (ne_of_none B.hg h).symm, (ne_of_none B.hc h).symm⟩
theorem atI_some {α : Type} {xs : List α} {r : Int} (h0 : 0 ≤ r) (h1 : r < xs.length) : ∃ v, v ∈ xs ∧ atI xs r = some v := by
  obtain ⟨k, rfl⟩ : ∃ k : Nat, r = (k : Int) := ⟨r.toNat, by omega⟩
  have hk : k < xs.length := by omega
  exact ⟨xs[k], List.getElem_mem hk, atI_nat (List.getElem?_eq_getElem hk)⟩
def onesL (cs : List Nat) : List V := ((cs.map fun c => [c]).map SX.S).map V.str
theorem onesL_snoc (cs : List Nat) (c : Nat) : onesL cs ++ [tx [c]] = onesL (cs ++ [c]) := by
  unfold onesL
  rw [List.map_append, List.map_append, List.map_append]
  rfl
theorem flat_ones : ∀ cs : List Nat, (cs.map fun c => [c]).flatten = cs
  | [] => rfl
  | c :: cs => by rw [List.map_cons, List.flatten_cons, flat_ones cs]; rfl
theorem join_nilN : ∀ ys : List (List Nat), TL.joinL [] ys = ys.flatten
  | [] => rfl
  | [y] => by show y = y ++ []; rw [List.append_nil]
  | y :: z :: r => by
    show y ++ ([] ++ TL.joinL [] (z :: r)) = y ++ (z :: r).flatten
    rw [join_nilN (z :: r), List.nil_append]
theorem join_ones (cs : List Nat) : Txt.join (Str.ofString "") ((cs.map fun c => [c]).map SX.S) = SX.S cs := by
  rw [show Str.ofString "" = SX.S [] by decide +kernel, SX.join_S, join_nilN, flat_ones]
theorem fitN {n : Nat} (h : n ≤ 5000) : n ≤ sizeLine := Nat.le_trans h (by decide)
abbrev lts : List Nat := [97, 98, 99, 100, 101, 102, 103, 104, 105, 106, 107, 108, 109, 110, 111, 112, 113, 114, 115, 116, 117, 118, 119, 120, 121, 122]
theorem inV_strs (x : Str) : ∀ ns : List Str, inV (.str x) (ns.map V.str) = decide (x ∈ ns)
  | [] => rfl
  | n :: ns => by
    show ((n == x) || inV (.str x) (ns.map V.str)) = _
    rw [inV_strs x ns, Bool.eq_iff_iff, Bool.or_eq_true, beq_iff_eq, decide_eq_true_eq, decide_eq_true_eq, List.mem_cons]
    exact ⟨fun h => h.imp Eq.symm id, fun h => h.imp Eq.symm id⟩
theorem flat_strs : ∀ ns : List Str, (ns.map V.str).all flatV = true
  | [] => rfl
  | n :: ns => by
    show (flatV (.str n) && (ns.map V.str).all flatV) = true
    rw [flat_strs ns]
    rfl
theorem free_letter {ns : List Str} (h : ns.length ≤ 25) : ∃ c ∈ lts, SX.S [c] ∉ ns := by
  refine Classical.byContradiction fun no => ?_
  have all : ∀ c ∈ lts, SX.S [c] ∈ ns := fun c hc => Classical.byContradiction fun z => no ⟨c, hc, z⟩
  obtain ⟨r, p⟩ := perm_rest (l := lts.map fun c => SX.S [c]) (ks := ns) (by decide +kernel) fun k hk => by
    obtain ⟨c, hc, rfl⟩ := List.mem_map.mp hk
    exact all c hc
  have z := p.length_eq
  rw [List.length_append, List.length_map] at z
  have : lts.length = 26 := rfl
  omega
theorem one_name {c : Nat} (h : c ∈ lts) : nameL [c] = true := by
  have key : ∀ c ∈ lts, nameL [c] = true := by decide +kernel
  exact key c h
def spNames : Sp := fun vs H Q _ => ∃ (b g c : Addr) (n m : Nat), vs = [.ref b, .int (m : Int)] ∧ m ≤ 10 ∧ Box H b g c n ∧ n + 200 < 1000000 ∧
  ∀ (D : Addr) (ns : List Str) (H' : Hp), ns.length = m → ns.Nodup → (∀ x ∈ ns, nameL x.cps.toList = true) → H' D = some (.lst (ns.map V.str)) → H D = none → Box H' b g c (n + 11 * m) → But b g H H' → Q (.ref D) H'
section
variable {P : Program} {w : World} {K : PySem.W.Frag} {mg : Str → Option Value} {base : Heap}
theorem ok_names (T : Bt mg) (GT : Kn P w K mg base CX0 "_law_take" 2 ["_law_box_here", "_law_size"] spTake) (D : Df K mg "_law_names" s_l_names ["_law_box_here", "_law_many"]) :
    Kn P w K mg base CX0 "_law_names" 3 ["_law_box_here", "_law_many"] spNames := by
  obtain ⟨f, fd, F, hm, hb⟩ := D
  obtain ⟨f_l_take, fd_l_take, G_l_take, m_l_take, k_l_take, b_l_take⟩ := GT
  refine ⟨f, fd, F.ok sc_l_names (fun vs H Q E h => ?_) (fun cdv A outer s H vs Q E hr h => ?_), hm, F.kp, hb⟩
  · obtain ⟨b, g, c, n, m, rfl, _⟩ := h
    rfl
  · obtain ⟨b, g, c, n, m_, rfl, hm10, B, hn, q⟩ := h
    refine ⟨_, (pss_cons (ps_set (i := 2) sc_l_names.nd rfl (Or.inr rfl) pe_str)
      (pss_cons (ps_set (i := 3) sc_l_names.nd rfl (Or.inr rfl) (pe_lst pa_nil))
      (pss_cons (ps_for PassesOwn.never rfl (pi_range1 rfl T.n_range (pa_cons (pv 1) pa_nil)) (pg_name (i := 4) sc_l_names.nd rfl (Or.inl rfl))
        (pss_cons (ps_set (i := 5) sc_l_names.nd rfl (Or.inl rfl) (pe_op op_add pe_int (pe_call G_l_take (hr.mono (by omega)) rfl m_l_take k_l_take b_l_take .nil pass0 (pa_cons (pv 0) (pa_cons (pe_ix ix_list (pe_lst (pa_cons pe_int (pa_cons pe_int (pa_cons pe_int pa_nil)))) (pe_call G_l_take (hr.mono (by omega)) rfl m_l_take k_l_take b_l_take .nil pass0 (pa_cons (pv 0) (pa_cons pe_int pa_nil))) (fun _ _ => rfl)) pa_nil)))))
      (C8.pss_cut (ps_set (i := 6) sc_l_names.nd rfl (Or.inl rfl) (pe_bm PySem.F.plainAttrs_str PySem.F.slot_str_join PySem.F.type_str_join mt_join pe_str (pa_cons (pe_lc (own := [("_law_j", 7)]) rfl sc_l_names.nd (pi_range1 rfl T.n_range (pa_cons (pv 5) pa_nil)) (blkOk_by (N := ["_law_box_here", "_law_many", "_law_letters", "_law_found", "_law_k", "_law_size", "_law_name", "_law_j", "_law_one"]) (sc := defScope s_l_names) (by decide +kernel)) (fun _ _ _ _ _ => (pg_name (i := 7) sc_l_names.nd rfl (Or.inl rfl))) (fun _ _ _ _ _ => pts_nil) (fun _ _ _ _ _ => (pe_ix ix_str (pv 2) (pe_call G_l_take (hr.mono (by omega)) rfl m_l_take k_l_take b_l_take .nil pass0 (pa_cons (pv 0) (pa_cons pe_int pa_nil))) (fun _ _ => rfl)))) pa_nil)))
      (C8.pss_cut (ps_if (pt_cmpR op_in_seq (pv 6) (pe_op op_cat (pv 3) (pe_lst (pa_cons pe_str (pa_cons pe_str pa_nil)))) (by rfl)) (pss_one (ps_set (i := 6) sc_l_names.nd rfl (Or.inl rfl) (pe_ix ix_list (pe_lc (own := [("_law_one", 8)]) rfl sc_l_names.nd (pi_str (pv 2)) (blkOk_by (N := ["_law_box_here", "_law_many", "_law_letters", "_law_found", "_law_k", "_law_size", "_law_name", "_law_j", "_law_one"]) (sc := defScope s_l_names) (by decide +kernel)) (fun _ _ _ _ _ => (pg_name (i := 8) sc_l_names.nd rfl (Or.inl rfl))) (fun _ _ _ _ _ => (pts_one (pt_cmpR (op_notInK (K := K) rfl) (pv 8) (pv 3) (by rfl)))) (fun _ _ _ _ _ => (pv 8))) pe_int (fun _ _ => rfl)))) pss_nil)
      (pss_one (ps_expr (pe_bm PySem.F.plainAttrs_list PySem.F.slot_list_append PySem.F.type_list_append mt_append (pv 3) (pa_cons (pv 6) pa_nil))))))))
      (pss_one (ps_ret (pv 3)))))), ?_⟩
    refine ⟨(by show 0 ≤ sizeLine; decide), fun D hD => ?_⟩
    obtain ⟨db, dg, dc⟩ := B.ne hD
    have B0 := B.same (same_new hD (.lst []))
    have p62 : (2 : Int) ^ 62 = 4611686018427387904 := by decide
    refine ⟨_, rfl, (m_ : Int), rfl, by omega, by omega, ?_⟩
    refine for_range (lo := 0) (n := ((m_ : Int)).toNat) (fun i σ H' => ∃ (ns : List Str) (x4 x5 x6 x7 x8 : Option V), σ = [some (.ref b), some (.int (m_ : Int)), some (.str "abcdefghijklmnopqrstuvwxyz"), some (.ref D), x4, x5, x6, x7, x8] ∧ ns.length = i ∧ ns.Nodup ∧ (∀ x ∈ ns, nameL x.cps.toList = true) ∧ H' D = some (.lst (ns.map V.str)) ∧ Box H' b g c (n + 11 * i) ∧ But b g H H')
      ⟨[], _, _, _, _, _, rfl, rfl, List.nodup_nil, (fun x hx => by cases hx), upd_same, B0, But.of (same_new hD _)⟩ ?_ ?_
    · rintro i σ H1 hi ⟨ns, x4, x5, x6, x7, x8, rfl, hl, nd, nm, hDl, B1, bt1⟩
      refine ⟨_, rfl, ?_⟩
      refine ⟨(by show 3 ≤ sizeLine; decide), fun p3 np3 => ⟨_, rfl, b, g, c, _, 3, rfl, B1.same (same_new np3 _), (by omega), (by decide), (by decide), fun r3 H3 r03 r13 B3 bt3 => ?_⟩⟩
      have hp3 := But.new B1 np3 bt3
      have bu3 := But.after np3 bt3
      obtain ⟨v3, hv3, hat3⟩ := at_pick hp3 r03 r13 rfl
      refine ⟨p3, _, r3, v3, rfl, rfl, SqL.of hp3, hat3, ?_⟩
      have hw : ∃ y : Int, v3 = .int y ∧ 0 < y ∧ y ≤ 8 := by
        simp only [List.mem_cons, List.not_mem_nil, or_false] at hv3
        rcases hv3 with e | e | e
        · exact ⟨_, e, by decide, by decide⟩
        · exact ⟨_, e, by decide, by decide⟩
        · exact ⟨_, e, by decide, by decide⟩
      obtain ⟨y, rfl, y0, y1⟩ := hw
      refine ⟨b, g, c, _, y, rfl, B3, by omega, y0, pow8000' y 4 (by decide) (by show y.natAbs < 16; omega), fun r H4 r0 r1 B4 b4 => ?_⟩
      refine ⟨_, _, rfl, rfl, ?_⟩
      have bt4 : But b g H1 H4 := bu3.trans b4
      have p62 : (2 : Int) ^ 62 = 4611686018427387904 := by decide
      refine ⟨fun σ H' => ∃ (cs : List Nat) (z7 z8 : Option V), σ = [some (.ref b), some (.int (m_ : Int)), some (.str "abcdefghijklmnopqrstuvwxyz"), some (.ref D), some (.int (0 + (i : Int))), some (.int (1 + r)), some (tx cs), z7, z8] ∧ cs ≠ [] ∧ cs.length < 9 ∧ cs.all az = true ∧ Box H' b g c (n + 11 * i + 11) ∧ But b g H1 H', ?_, ?_⟩
      · refine ⟨rfl, _, rfl, 1 + r, rfl, by omega, by omega, fun D5 hD5 => ?_⟩
        obtain ⟨eb, eg, ec⟩ := B4.ne hD5
        refine lc_range (lo := 0) (n := (1 + r).toNat) (fun j H' => ∃ cs : List Nat, cs.length = j ∧ cs.all az = true ∧ H' D5 = some (.lst (onesL cs)) ∧ Box H' b g c (n + 11 * i + 2 + j) ∧ But b g H4 H') ⟨[], rfl, rfl, upd_same, (B4.same (same_new hD5 _)).mono (by omega), But.of (same_new hD5 _)⟩ ?_ ?_
        · rintro j H5 hj ⟨cs, lc, ca, hDl5, B5, b5⟩
          refine ⟨rfl, _, rfl, _, rfl, b, g, c, _, 26, rfl, B5, by omega, by decide, pow8000' 26 5 (by decide) (by decide), fun x H6 x0 x1 B6 b6 => ?_⟩
          obtain ⟨ch, hcm, hch⟩ := atI_some (xs := (Str.ofString "abcdefghijklmnopqrstuvwxyz").cps.toList) x0 (by rw [show (Str.ofString "abcdefghijklmnopqrstuvwxyz").cps.toList.length = 26 by decide +kernel]; exact x1)
          have hD6 := b6 D5 _ hDl5 eb eg
          refine ⟨_, _, ch, rfl, rfl, fitN (by decide +kernel), hch, _, hD6, ?_, cs ++ [ch], by rw [List.length_append, lc]; rfl, ?_, ?_, B6.off eb eg ec, ?_⟩
          · unfold onesL
            rw [List.length_map, List.length_map, List.length_map]
            exact small1000 (by omega)
          · rw [List.all_append, ca, Bool.true_and, List.all_cons, List.all_nil, Bool.and_true]
            exact (show ∀ c ∈ (Str.ofString "abcdefghijklmnopqrstuvwxyz").cps.toList, az c = true by decide +kernel) ch hcm
          · rw [upd_same, ← onesL_snoc]
          · intro a o h h1 h2
            rw [upd_ne (ne_of_none h hD5)]
            exact (b5.trans b6) a o h h1 h2
        · rintro H5 ⟨cs, lc, ca, hDl5, B5, b5⟩
          have hlen : (((cs.map fun c => [c]).map SX.S).map (·.length)).sum + ((cs.map fun c => [c]).map SX.S).length * (Str.ofString "").length ≤ 16777216 := by
            rw [SX.lens, ← List.length_flatten, flat_ones, show (Str.ofString "").length = 0 by decide +kernel, Nat.mul_zero, Nat.add_zero]
            omega
          refine ⟨_, D5, _, rfl, rfl, .inl (SqL.of hDl5), hlen, cs, x7, x8, ?_, ?_, by omega, ca, B5.mono (by omega), bt4.trans b5⟩
          · rw [join_ones]
            rfl
          · intro z
            rw [z] at lc
            have : ([] : List Nat).length = 0 := rfl
            omega
      rintro σ H5 ⟨cs, z7, z8, rfl, c0, c9, ca, B5, b5⟩
      have hD5 := b5 D _ hDl db dg
      refine ⟨fun σ H' => ∃ (x : Str) (z7 z8 : Option V), σ = [some (.ref b), some (.int (m_ : Int)), some (.str "abcdefghijklmnopqrstuvwxyz"), some (.ref D), some (.int (0 + (i : Int))), some (.int (1 + r)), some (.str x), z7, z8] ∧ nameL x.cps.toList = true ∧ x ∉ ns ∧ Same H5 H', ?_, ?_⟩
      · refine ⟨_, rfl, _, rfl, (by show 2 ≤ sizeLine; decide), fun p np => ?_⟩
        have s1 := same_new np (.lst [V.str "sum", V.str "average"])
        refine ⟨D, p, _, _, rfl, rfl, s1 _ _ hD5, upd_same, (by rw [List.length_map]; show ns.length + 2 ≤ sizeLine; exact Nat.le_of_lt (small1000 (by omega))), fun p2 np2 => ?_⟩
        have s2 := s1.trans (same_new np2 (.lst (ns.map V.str ++ [V.str "sum", V.str "average"])))
        refine ⟨p2, (ns ++ [Str.ofString "sum", Str.ofString "average"]).map V.str, rfl, .inl (SqL.of (by rw [upd_same, List.map_append]; rfl)), rfl, flat_strs _, _, rfl, ?_⟩
        have hin := inV_strs (SX.S cs) (ns ++ [Str.ofString "sum", Str.ofString "average"])
        refine ite2 (fun k => ?_) (fun k => ?_)
        · have hD6 := s2 _ _ hD5
          refine ⟨_, rfl, SX.S lts, congrArg V.str letters_S, fun D6 hD6n => ?_⟩
          refine lc_str (l := lts) (fun i H' => Same (upd (upd H5 p (.lst [V.str "sum", V.str "average"])) p2 (.lst (ns.map V.str ++ [V.str "sum", V.str "average"]))) H' ∧ H' D6 = some (.lst (((lts.take i).filter fun c => decide (SX.S [c] ∉ ns)).map fun c => tx [c]))) ⟨same_new hD6n _, upd_same⟩ ?_ ?_
          · rintro i ch H7 hch ⟨s7, hacc⟩
            have hD7 := s7 _ _ hD6
            have hnot := inV_strs (SX.S [ch]) ns
            refine ⟨rfl, _, rfl, _, rfl, D, _, rfl, .inl (SqL.of hD7), rfl, flat_strs ns, _, rfl, ?_⟩
            have eb : (!inV (V.str (SX.S [ch])) (ns.map V.str)) = decide (SX.S [ch] ∉ ns) := by rw [hnot, decide_not]
            refine ite2 (fun m => ?_) (fun m => ?_)
            · have m2 := eb.symm.trans m
              refine ⟨_, rfl, _, hacc, ?_, same_upd s7 hD6n, ?_⟩
              · rw [List.length_map]
                refine Nat.lt_of_le_of_lt (List.length_filter_le _ _) ?_
                rw [List.length_take]
                exact small1000 (Nat.le_trans (Nat.min_le_right _ _) (by decide))
              · rw [upd_same, take_more hch, List.filter_append, List.filter_cons_of_pos (by exact m2), List.filter_nil, List.map_append]
                rfl
            · have m2 := eb.symm.trans (Bool.eq_false_iff.mpr m)
              refine ⟨s7, ?_⟩
              rw [take_more hch, List.filter_append, List.filter_cons_of_neg (by rw [m2]; exact Bool.false_ne_true), List.filter_nil, List.append_nil]
              exact hacc
          · rintro H7 ⟨s7, hacc⟩
            rw [List.take_length] at hacc
            obtain ⟨c1, hc1, hc2⟩ := free_letter (ns := ns) (by omega)
            obtain ⟨d, rest, hfl⟩ : ∃ d rest, lts.filter (fun c => decide (SX.S [c] ∉ ns)) = d :: rest := by
              cases hf : lts.filter (fun c => decide (SX.S [c] ∉ ns)) with
              | nil =>
                have : c1 ∈ lts.filter (fun c => decide (SX.S [c] ∉ ns)) := List.mem_filter.mpr ⟨hc1, decide_eq_true hc2⟩
                rw [hf] at this
                cases this
              | cons d rest => exact ⟨d, rest, rfl⟩
            have hdm : d ∈ lts ∧ decide (SX.S [d] ∉ ns) = true := List.mem_filter.mp (by rw [hfl]; exact List.mem_cons_self ..)
            rw [hfl] at hacc
            refine ⟨D6, _, _, tx [d], rfl, rfl, SqL.of hacc, at_of (j := 0) rfl rfl, SX.S [d], _, _, rfl, ?_, of_decide_eq_true hdm.2, s2.trans s7⟩
            rw [show (SX.S [d]).cps.toList = [d] by simp [SX.S]]
            exact one_name hdm.1
        · have k2 := of_decide_eq_false (hin.symm.trans (Bool.eq_false_iff.mpr k))
          refine ⟨SX.S cs, _, _, rfl, ?_, fun z => k2 (List.mem_append_left _ z), s2⟩
          rw [show (SX.S cs).cps.toList = cs by simp [SX.S]]
          have n1 : cs ≠ [115, 117, 109] := fun z => k2 (List.mem_append_right _ (by rw [z]; exact List.mem_cons.mpr (.inl (by decide +kernel))))
          have n2 : cs ≠ [97, 118, 101, 114, 97, 103, 101] := fun z => k2 (List.mem_append_right _ (by rw [z]; exact List.mem_cons_of_mem _ (List.mem_cons.mpr (.inl (by decide +kernel)))))
          unfold nameL
          rw [decide_eq_true c0, decide_eq_true c9, ca, decide_eq_true n1, decide_eq_true n2]
          rfl
      rintro σ H6 ⟨x, z7, z8, rfl, nx, xin, s56⟩
      have hD6 := s56 _ _ hD5
      have B6 := B5.same s56
      refine ⟨_, rfl, .inl ⟨rfl, _, SqL.of hD6⟩, _, rfl, D, _, _, rfl, rfl, hD6, (by rw [List.length_map]; exact small1000 (by omega)), ns ++ [x], _, _, _, _, _, rfl, by rw [List.length_append, hl]; rfl, ?_, ?_, ?_, (B6.off db dg dc).mono (by omega), ?_⟩
      · rw [List.nodup_append]
        refine ⟨nd, List.pairwise_singleton _ _, fun u hu v hv e => ?_⟩
        rw [List.mem_singleton.mp hv] at e
        exact xin (by rw [← e]; exact hu)
      · intro u hu
        rcases List.mem_append.mp hu with hu | hu
        · exact nm u hu
        · rw [List.mem_singleton.mp hu]
          exact nx
      · rw [upd_same, List.map_append]
        rfl
      · intro a o h h1 h2
        rw [upd_ne (ne_of_none h hD)]
        exact s56 _ _ (b5 _ _ (bt1 a o h h1 h2) h1 h2)
    · rintro σ H1 ⟨ns, x4, x5, x6, x7, x8, rfl, hl, nd, nm, hDl, B1, bt1⟩
      refine ⟨_, rfl, ?_⟩
      exact q D ns H1 (by omega) nd nm hDl hD (B1.mono (by omega)) bt1
end

theorem peK_bm {X : Cx} {K : PySem.W.Frag} {e : Expr} {T : String} {r : V → List V → Hp → VK → Prop} {to : TE} {t : TA} (h : X.K = K) (p : PE X e (tBM X.K T r to t)) : PE X e (tBM K T r to t) := by
  subst h
  exact p
theorem eraseMap : ∀ (l : List Str) (k : Nat), (l.map V.str).eraseIdx k = (l.eraseIdx k).map V.str
  | [], k => by simp
  | x :: l, 0 => by simp
  | x :: l, k + 1 => by simp [eraseMap l k]
def spShufV : Sp := fun vs H Q _ => ∃ (b g c t : Addr) (n : Nat) (xs : List V), vs = [.ref b, .ref t] ∧ Box H b g c n ∧ n + 20 < 1000000 ∧ H t = some (.lst xs) ∧ xs.length ≤ 12 ∧
  ∀ (D : Addr) (ys : List V) (H' : Hp), ys.Perm xs → H' D = some (.lst ys) → H D = none → Box H' b g c (n + 12) → But b g H H' → Q (.ref D) H'
def spShuf : Sp := fun vs H Q _ => ∃ (b g c t : Addr) (n : Nat) (ns : List Str), vs = [.ref b, .ref t] ∧ Box H b g c n ∧ n + 20 < 1000000 ∧ H t = some (.lst (ns.map V.str)) ∧ ns.length ≤ 12 ∧
  ∀ (D : Addr) (ys : List Str) (H' : Hp), ys.Perm ns → H' D = some (.lst (ys.map V.str)) → H D = none → Box H' b g c (n + 12) → But b g H H' → Q (.ref D) H'
theorem perm_back {α β : Type} {f : α → β} {ys l : List β} (h : ys.Perm l) : ∀ ns : List α, l = ns.map f → ∃ zs : List α, ys = zs.map f ∧ zs.Perm ns := by
  induction h with
  | nil =>
    intro ns e
    cases ns with
    | nil => exact ⟨[], rfl, .nil⟩
    | cons n ns => cases e
  | cons x h ih =>
    intro ns e
    cases ns with
    | nil => cases e
    | cons n ns =>
      obtain ⟨rfl, e2⟩ := List.cons.inj e
      obtain ⟨zs, rfl, p⟩ := ih ns e2
      exact ⟨n :: zs, rfl, .cons n p⟩
  | swap x y l =>
    intro ns e
    match ns, e with
    | n :: m :: ns, e =>
      obtain ⟨rfl, e2⟩ := List.cons.inj e
      obtain ⟨rfl, rfl⟩ := List.cons.inj e2
      exact ⟨m :: n :: ns, rfl, .swap n m ns⟩
  | trans h1 h2 ih1 ih2 =>
    intro ns e
    obtain ⟨zs, e2, p⟩ := ih2 ns e
    obtain ⟨ws, e3, p2⟩ := ih1 zs e2
    exact ⟨ws, e3, p2.trans p⟩
theorem call_lenK {X : Cx} {K : PySem.W.Frag} (h : X.K = K) : CallR X (.builtin "len") (fun xs H Q => ∃ p ys, xs = [.ref p] ∧ (SqL K H p ys ∨ SqT K H p ys) ∧ Q (.int (ys.length : Nat)) H) := by
  subst h
  exact call_len_seq
theorem ixSeq {n : Nat} {r : Nat} (h : r < n) : seqIndex? (r : Int) n = some r := by
  have e : ixN n (r : Int) = some r := by
    unfold ixN
    rw [if_pos (by omega), if_pos (by omega)]
    congr 1
  exact (ixN_seq e).1
section
variable {P : Program} {w : World} {K : PySem.W.Frag} {mg : Str → Option Value} {base : Heap}
theorem ok_shuffledV (T : Bt mg) (GT : Kn P w K mg base CX0 "_law_take" 2 ["_law_box_here", "_law_size"] spTake) (D : Df K mg "_law_shuffled" s_l_shuffled ["_law_box_here", "_law_things"]) :
    Kn P w K mg base CX0 "_law_shuffled" 3 ["_law_box_here", "_law_things"] spShufV := by
  obtain ⟨f, fd, F, hm, hb⟩ := D
  obtain ⟨f_l_take, fd_l_take, G_l_take, m_l_take, k_l_take, b_l_take⟩ := GT
  refine ⟨f, fd, F.ok sc_l_shuffled (fun vs H Q E h => ?_) (fun cdv A outer s H vs Q E hr h => ?_), hm, F.kp, hb⟩
  · obtain ⟨b, g, c, t, n, xs, rfl, _⟩ := h
    rfl
  · obtain ⟨b, g, c, t, n, xs, rfl, B, hn, ht, hl, q⟩ := h
    refine ⟨_, (pss_cons (ps_set (i := 2) sc_l_shuffled.nd rfl (Or.inr rfl) (pe_callTy call_list_of (by rfl) T.n_list (by decide +kernel) (pa_cons (pv 1) pa_nil)))
      (pss_one (ps_ret (pe_lc (own := [("_law_k", 3)]) rfl sc_l_shuffled.nd (pi_range1 rfl T.n_range (pa_cons (pe_callB (call_lenK (K := K) rfl) (by rfl) T.n_len (by decide +kernel) (pa_cons (pv 2) pa_nil)) pa_nil)) (blkOk_by (N := ["_law_box_here", "_law_things", "_law_pile", "_law_k"]) (sc := defScope s_l_shuffled) (by decide +kernel)) (fun _ _ _ _ _ => (pg_name (i := 3) sc_l_shuffled.nd rfl (Or.inl rfl))) (fun _ _ _ _ _ => pts_nil) (fun _ _ _ _ _ => (peK_bm (K := K) rfl (pe_bm PySem.F.plainAttrs_list PySem.F.slot_list_pop PySem.F.type_list_pop mt_popAt (pv 2) (pa_cons (pe_call G_l_take (hr.mono (by omega)) rfl m_l_take k_l_take b_l_take .nil pass0 (pa_cons (pv 0) (pa_cons (pe_callB (call_lenK (K := K) rfl) (by rfl) T.n_len (by decide +kernel) (pa_cons (pv 2) pa_nil)) pa_nil))) pa_nil)))))))), ?_⟩
    have p62 : (2 : Int) ^ 62 = 4611686018427387904 := by decide
    refine ⟨_, rfl, t, _, rfl, .inl (SqL.of ht), fun L hL => ?_⟩
    have s1 := same_new hL (.lst (xs))
    have B1 := B.same s1
    obtain ⟨lb, lg, lc⟩ := B.ne hL
    refine ⟨_, rfl, L, _, rfl, .inl (SqL.of upd_same), (xs.length : Int), rfl, by omega, by omega, fun D hD => ?_⟩
    have hLD : D ≠ L := fun e => by
      rw [e] at hD
      rw [upd_same] at hD
      cases hD
    obtain ⟨eb, eg, ec⟩ := B1.ne hD
    have nD : H D = none := by
      rw [upd_ne hLD] at hD
      exact hD
    refine lc_range (lo := 0) (n := ((xs.length : Int)).toNat) (fun j H' => ∃ done left : List V, done.length = j ∧ (done ++ left).Perm xs ∧ H' D = some (.lst (done)) ∧ H' L = some (.lst (left)) ∧ Box H' b g c (n + j) ∧ But b g H H') ⟨[], xs, rfl, List.Perm.refl _, upd_same, by rw [upd_ne hLD.symm]; exact upd_same, B1.off eb eg ec, ?_⟩ ?_ ?_
    · intro a o h _ _
      rw [upd_ne (ne_of_none h nD), upd_ne (ne_of_none h hL)]
      exact h
    · rintro j H2 hj ⟨done, left, ld, pm, hDd, hLl, B2, b2⟩
      have ll : left.length = xs.length - j := by
        have z := pm.length_eq
        rw [List.length_append, ld] at z
        omega
      have hjn : j < xs.length := by omega
      have lm : ((left).length : Int) = (left.length : Int) := rfl
      refine ⟨rfl, _, rfl, .inl ⟨rfl, _, SqL.of hLl⟩, _, rfl, _, rfl, L, _, rfl, .inl (SqL.of hLl), b, g, c, _, ((left).length : Int), rfl, B2, by omega, by omega, pow8000' _ 4 (by decide) (by rw [lm]; show ((left.length : Nat) : Int).natAbs < 16; omega), fun r H3 r0 r1 B3 b3 => ?_⟩
      obtain ⟨k, rfl⟩ : ∃ k : Nat, r = (k : Int) := ⟨r.toNat, by omega⟩
      have hk : k < left.length := by omega
      have hL3 := b3 L _ hLl lb lg
      have hD3 := b3 D _ hDd eb eg
      have p63 : (2 : Int) ^ 63 = 9223372036854775808 := by decide
      refine ⟨L, _, (k : Int), k, left[k], rfl, rfl, hL3, by omega, by omega, ixSeq hk, List.getElem?_eq_getElem hk, ?_⟩
      refine ⟨_, by rw [upd_ne hLD]; exact hD3, small1000 (by omega), done ++ [left[k]], left.eraseIdx k, by rw [List.length_append, ld]; rfl, ?_, ?_, ?_, ?_, ?_⟩
      · refine List.Perm.trans ?_ pm
        rw [List.append_assoc]
        exact List.Perm.append_left done (erase_perm left k left[k] (List.getElem?_eq_getElem hk))
      · exact upd_same
      · rw [upd_ne hLD.symm, upd_same]
      · exact (B3.off lb lg lc).off eb eg ec
      · intro a o h h1 h2
        rw [upd_ne (ne_of_none h nD), upd_ne (ne_of_none h hL)]
        exact b3 a o (b2 a o h h1 h2) h1 h2
    · rintro H2 ⟨done, left, ld, pm, hDd, hLl, B2, b2⟩
      have ll : left = [] := by
        have z := pm.length_eq
        rw [List.length_append, ld] at z
        exact List.length_eq_zero_iff.mp (by omega)
      rw [ll, List.append_nil] at pm
      exact q D done H2 pm hDd nD (B2.mono (by omega)) b2
theorem ok_shuffled (T : Bt mg) (GT : Kn P w K mg base CX0 "_law_take" 2 ["_law_box_here", "_law_size"] spTake) (D : Df K mg "_law_shuffled" s_l_shuffled ["_law_box_here", "_law_things"]) :
    Kn P w K mg base CX0 "_law_shuffled" 3 ["_law_box_here", "_law_things"] spShuf := by
  obtain ⟨f, fd, F, a, b, c⟩ := ok_shuffledV T GT D
  refine ⟨f, fd, F.imp fun vs H Q E h => ?_, a, b, c⟩
  obtain ⟨b, g, c, t, n, ns, rfl, B, hn, ht, hl, q⟩ := h
  refine ⟨b, g, c, t, n, ns.map V.str, rfl, B, hn, ht, by rw [List.length_map]; exact hl, fun D ys H' pm hD nD B' b' => ?_⟩
  obtain ⟨zs, rfl, p⟩ := perm_back pm ns rfl
  exact q D zs H' p hD nD B' b'
end

/-! ### promises of defs while no text of a list is under way -/
structure FnG (P : Program) (w : World) (K : PySem.W.Frag) (mg : Str → Option Value) (base : Heap) (cx : CXT) (k : Nat) (f : Addr) (fd : FuncData) (ps : List Str) (sp : Sp) : Prop where
  many : ∀ vs H Q E, sp vs H Q E → vs.length = ps.length
  goes : ∀ (A : Around) (o : List Env) (s : Shared) (H : Hp) (as : Args) (us : List Value) (vs : List V) (Q : VK) (E : XK), Room k A → A.guards = some [] →
    Env0 P w K mg base A o s H → BindsTo s fd as (ps.zip us) → Vals vs us → sp vs H Q E → codeAny (model P w) A (.call (.ref f) as) (CR cx o P w H s Q E) s
theorem FnOk.free {P : Program} {w : World} {K : PySem.W.Frag} {mg : Str → Option Value} {base : Heap} {cx : CXT} {k : Nat} {f : Addr} {fd : FuncData} {ps : List Str} {sp : Sp} (F : FnOk P w K mg base cx k f fd ps sp) : FnG P w K mg base cx k f fd ps sp :=
  ⟨F.len, fun A o s H as us vs Q E hr _ => F.run A o s H as us vs Q E hr⟩
def KnG (P : Program) (w : World) (K : PySem.W.Frag) (mg : Str → Option Value) (base : Heap) (cx : CXT) (x : Str) (k : Nat) (ps : List Str) (sp : Sp) : Prop :=
  ∃ f fd, FnG P w K mg base cx k f fd ps sp ∧ mg x = some (.ref f) ∧ PySem.W.keepIn K (.ref f) = true ∧ Binds K fd ps []
section
open PyProof.Rows
/-- a def by its body, the frame's guards known -/
theorem okG {P : Program} {w : World} {K : PySem.W.Frag} {mg : Str → Option Value} {base : Heap} {x qual : Str} {st : Stmt} {f : Addr} {fd : FuncData} {N ps : List Str} {k : Nat} {sp : Sp} (F : Fun K x qual st f fd) (S : FnScope N ps (defScope st))
    (many : ∀ vs H Q E, sp vs H Q E → vs.length = ps.length)
    (body : ∀ (cdv : Value) (A : Around) (o : List Env) (s : Shared) (H : Hp) (vs : List V) (Q : VK) (E : XK), Room k (A.deeper (envOfC qual (defScope st) s.heap.objs.size f cdv)) → A.guards = some [] → sp vs H Q E →
      ∃ t, PSs (cxOf CX0 P w K mg base N qual (defScope st) f cdv A o s H E).nox (defBody st) t ∧ t { nx := fun _ H' => Q .non H', rt := Q } (start N vs) H) : FnG P w K mg base CX0 (k + 1) f fd ps sp := by
  obtain ⟨oc, od, kV, doc, pm, an, cdv, ct, osl, rfl, lk, hcd⟩ := F.ex
  refine ⟨many, fun A o s H as us vs Q E hr hg e0 hb rv hsp => ?_⟩
  have nl := many _ _ _ _ hsp
  have old : ∀ b ob, base.get? b = some ob → s.heap.get? b = some ob := fun b ob e => (e0.bs b ob e).1
  have kx : K.In s.heap := e0.mod.kin.keeps old
  refine codeAny_call_function hr.depth (kx _ _ lk) rfl S.co S.gen rfl (PySem.W.codeRec_of kx hcd) (hb _ _ _ _ (wpAny_newFunctionEnv_cells S.kind (fun ⟨n, v⟩ hy => (S.par n (List.of_mem_zip hy).1).imp id fun q => ⟨q, PySem.W.cellsFrom_some _ _ _ (.inl q)⟩) fun env he s1 xc => ?_))
  cases he
  refine ⟨(e0.mod.nolimit.keeps old).keeps xc.toInCall.keep, codeAny_func ?_⟩
  obtain ⟨t, ht, hq⟩ := body cdv A o s H vs Q E (hr.deeper _) hg hsp
  refine wpAny_mono (ht.nox.run [] s1 (start N vs) H _ (inv_start S hr.hd e0 nl rv xc) hq) (fun fl s' hs => ?_) fun e s' hs => hs
  match fl, hs with
  | .ret u, ⟨v, _, H', J, r2, q⟩ => exact ⟨v, H', J.os, J.bare, J.base, J.hok, r2, q⟩
  | .next, ⟨_, H', J, q⟩ => exact ⟨.non, H', J.os, J.bare, J.base, J.hok, rfl, q⟩
  | .brk, ⟨_, _, _, q⟩ => exact q.elim
  | .cont, ⟨_, _, _, q⟩ => exact q.elim
/-- a call of such a def -/
theorem pe_callG {X : Cx} {cx : CXT} {k : Nat} {f : Addr} {fd : FuncData} {ps : List Str} {sp : Sp} {E : XK} {x : Str} {p pos : Pos} {e : Expr} {es : List Expr} {t : TA} (F : FnG X.prog X.w X.K X.mg X.base cx k f fd ps sp) (hr : Room k X.A) (hg : X.A.guards = some []) (gl : Gl X x)
    (hm : X.mg x = some (.ref f)) (hk : PySem.W.keepIn X.K (.ref f) = true) (hb : Binds X.K fd ps []) (hx : Passes cx X E) (ha : PA X (e :: es) t) (hdb : (x == ("__debug__" : Str)) = false := by decide)
    (he : starEach (e :: es) X.env = (false, eval e X.env) :: starEach es X.env := by rfl) (hpl : (backTo pos (starEach es X.env)).any (·.1) = false := by rfl) : PE X (.Call (.Name x p) (e :: es) [] pos) (tCall sp [] E t) := by
  refine ⟨fun pins s σ H Q I h => wpAny_Call_Name_kw (ld_glob I gl hm (PySem.W.callWith_K (h₀ := X.base) I.ok.mod.kin hk (thn (ha.run pos pins s σ H _ I h) fun us s1 ⟨vs, H1, I1, r, q⟩ => ⟨I1.kIn, ?_⟩) he hpl) hdb)⟩
  have q : sp (vs ++ []) H1 Q E := q
  rw [List.append_nil] at q
  have nl : us.length = ps.length := by rw [← r.length]; exact F.many _ _ _ _ q
  have hb1 := hb s1 us I1.kIn (by rw [List.append_nil]; exact nl)
  rw [List.append_nil] at hb1
  refine wpAny_call (codeAny_mono (F.goes X.A X.stack s1 H1 ⟨us, []⟩ us vs Q E hr hg I1.env0 hb1 r q) fun re s' hq => ?_)
  match re, hq with
  | .error e, hq => exact hx pins σ H1 s1 e s' I1 hq
  | .ok (.ret _), hq => exact I1.after hq
  | .ok .next, hq => exact False.elim hq
  | .ok .brk, hq => exact False.elim hq
  | .ok .cont, hq => exact False.elim hq
/-- str() of a list or a tuple of data -/
def rStrD (K : PySem.W.Frag) : List V → Hp → VK → Prop := fun xs H Q => ∃ a d, xs = [.ref a] ∧ Dp K H (.ref a) d ∧ PyData.showable d = true ∧ PyData.hasDict d = false ∧ d.depth ≤ 40 ∧ (PyData.shown d).length ≤ sizeLine ∧ Q (.str (PyData.shown d)) H
theorem call_strD {X : Cx} {K : PySem.W.Frag} (e : X.K = K) (hg : X.A.guards = some []) (hu : X.A.units + 64 < cLine) : CallR X (.type "str") (rStrD K) := by
  subst e
  intro pins s σ H xs us Q I r h
  obtain ⟨a, d, rfl, hd, h1, h2, h3, h4, q⟩ := h
  obtain ⟨u, rfl, ru⟩ := vals1 r
  cases ru
  obtain ⟨as, rd⟩ := Dp.reads I d _ _ hd rfl
  exact PySem.str_of_reads rd h1 (PySem.PyData.noDict_hsm h2) hg (by omega) (fun _ _ h => h) (fun h' t tk hk => ⟨.str _, H, I.kept (t' := tk) hk, ⟨t, rfl⟩, q⟩) h4
end
section
open PyProof.Rows
/-- the law's call at the top -/
theorem top_callG {P : Program} {w : World} {K : PySem.W.Frag} {mg mb : Str → Option Value} {k : Nat} {fa a : Addr} {fd : FuncData} {x : Str} {sp : Sp} {z : Shared} {vs : List Value} {ns : List Int} (kx : K.In z.heap) (hm : z.heap.Ns mainGlobals mg) (hb : z.heap.Ns builtinsNs mb)
    (bb : ∀ x : Str, x ≠ "__name__" → mb x = bootBuiltins x) (nl : z.heap.NoLimit) (gn : z.gens = #[]) (ha : z.heap.get? a = some { cls := .type "list", data := .seq vs.toArray }) (hi : IntsAre vs ns) (hl : ns.length ≤ sizeLine) (hr : Room k callerA)
    (F : ∀ base : Heap, K.In base → base.Ns mainGlobals mg → FnG P w K mg base CX0 k fa fd [x] sp) (bd : ∀ (s : Shared) (u : Value), BindsTo s fd ⟨[u], []⟩ [(x, u)])
    (hsp : ∀ H : Hp, Only H → SqL K H a (ns.map V.int) → sp [.ref a] H (fun v _ => v = .bl true) fun _ _ _ => False) :
    codeAny (model P w) callerA (.call (.ref fa) ⟨[.ref a], []⟩) (fun r s' => r = .ok (.ret (.bool true)) ∧ OldK z.heap s'.heap ∧ s'.os = z.os ∧ AllBare s'.gens) z := by
  have lv := hi.length
  -- H tracks the script or nothing; it is hidden in the base
  have main : ∀ H : Hp, Only H → SqL K H a (ns.map V.int) → HOk P w H z.heap → (∀ b u, H b = some u → b = a ∧ K.lookup a = none) →
      codeAny (model P w) callerA (.call (.ref fa) ⟨[.ref a], []⟩) (fun r s' => r = .ok (.ret (.bool true)) ∧ OldK z.heap s'.heap ∧ s'.os = z.os ∧ AllBare s'.gens) z := by
    intro H only hS hok hA
    have clean : ∀ b, (∀ u, H b = some u → False) → H b = none := fun b h => by
      cases q : H b with
      | none => rfl
      | some u => exact (h u q).elim
    have ns2 : ∀ {b : Addr} {m : Str → Option Value}, z.heap.Ns b m → (hidT z.heap H).Ns b m := fun {b m} ⟨o, es, ep, e, d, r⟩ => ⟨o, es, ep, hidT_get e (clean b fun u q => by
      have eb := (hA b u q).1
      rw [eb, ha] at e
      cases e
      cases d), d, r⟩
    have kb : K.In (hidT z.heap H) := fun b o e => hidT_get (kx b o e) (clean b fun u q => by
      have y := hA b u q
      rw [y.1, y.2] at e
      cases e)
    obtain ⟨mc, n1, n2⟩ := nl
    have e0 : Env0 P w K mg (hidT z.heap H) callerA [] z H := ⟨rfl, ⟨kb, ns2 hm, ⟨mb, ns2 hb, bb⟩, mc, ns2 n1, n2⟩, fun b o e => of_hidT e, Nat.le_of_eq (hidT_size _ _), trivial, fun b h => (by cases h), hok, .of_eq gn⟩
    refine codeAny_mono ((F _ kb (ns2 hm)).goes callerA [] z H ⟨[.ref a], []⟩ [.ref a] [.ref a] _ _ hr rfl e0 (bd z (.ref a)) (.cons rfl .nil) (hsp H only hS)) fun re s' h => ?_
    match re, h with
    | .error e, h => exact h.elim
    | .ok .next, h => exact False.elim h
    | .ok .brk, h => exact False.elim h
    | .ok .cont, h => exact False.elim h
    | .ok (.ret u), ⟨v, H', os, bare, un, hok', rv, q⟩ =>
      cases (show v = V.bl true from q)
      cases (show u = Value.bool true from rv)
      refine ⟨rfl, OldK.of_keep fun b o e => ?_, os, bare⟩
      cases q2 : H b with
      | none => exact un.keep b o e q2 (fun y => by cases y) (fun y => by cases y)
      | some u =>
        rcases only b with y | ⟨ob, xs, y⟩
        · rw [q2] at y
          cases y
        · obtain ⟨e1, _⟩ := hok b _ y
          obtain ⟨e2, _⟩ := hok' b _ (un.frzs b ob _ y)
          rw [e] at e1
          cases e1
          exact e2
  have rv := vals_ints hi
  cases hk : K.lookup a with
  | some o =>
    have e := kx a o hk
    rw [ha] at e
    cases e
    exact main (fun _ => none) (fun _ => .inl rfl) (.inr ⟨_, vs.toArray, _, hk, rfl, rfl, rfl, by rw [List.size_toArray, lv]; exact hl, by simpa using rv⟩) (fun b u y => by cases y) (fun b u y => by cases y)
  | none =>
    have at_ : ∀ b u, (if b = a then some (HO.frz { cls := .type "list", data := .seq vs.toArray } (.lst (ns.map V.int))) else none) = some u → b = a ∧ u = .frz { cls := .type "list", data := .seq vs.toArray } (.lst (ns.map V.int)) := fun b u y => by
      split at y
      · rename_i h
        exact ⟨h, (Option.some.inj y).symm⟩
      · cases y
    refine main (fun b => if b = a then some (.frz { cls := .type "list", data := .seq vs.toArray } (.lst (ns.map V.int))) else none) (fun b => ?_) (.inl (.inr ⟨{ cls := .type "list", data := .seq vs.toArray }, if_pos rfl⟩)) (fun b u y => ?_) fun b u y => ⟨(at_ b u y).1, hk⟩
    · by_cases hb : b = a
      · exact .inr ⟨_, _, if_pos hb⟩
      · exact .inl (if_neg hb)
    · obtain ⟨rfl, rfl⟩ := at_ b u y
      exact ⟨ha, by rw [List.length_map]; exact hl, vs, _, rv, ha⟩
end

/-! ### tuples that have no dict of their own; dict() of such a tuple of pairs -/
section
open PyProof.Rows
def NdT (H : Hp) (a : Addr) (xs : List V) : Prop := ∃ o : Obj, H a = some (.frz o (.tup xs)) ∧ o.dict = none
theorem NdT.sq {K : PySem.W.Frag} {H : Hp} {a : Addr} {xs : List V} (h : NdT H a xs) : SqT K H a xs := by
  obtain ⟨o, h, _⟩ := h
  exact .inl (.inr ⟨o, h⟩)
theorem NdT.same {H H' : Hp} {a : Addr} {xs : List V} (h : NdT H a xs) (s : Same H H') : NdT H' a xs := by
  obtain ⟨o, h, d⟩ := h
  exact ⟨o, s _ _ h, d⟩
def tTupF (t : TA) : TE := fun σ H Q => t σ H fun xs H1 => xs.length ≤ sizeLine ∧ ∀ p o, H1 p = none → o.dict = none → Q (.ref p) (upd H1 p (.frz o (.tup xs)))
theorem pe_tupF {X : Cx} {es : List Expr} {t : TA} {k : Nat} {pos : Pos} (h : PA X es t) : PE X (.Tuple es k pos) (tTupF t) := by
  refine ⟨fun pins s σ H Q I hq => ?_⟩
  refine wpAny_Tuple_spliced (thn (h.run pos pins s σ H _ I hq) fun us s1 ⟨xs, H1, I1, r, z, q⟩ => ⟨by rw [← r.length]; exact z, ?_⟩)
  exact ⟨.ref s1.heap.objs.size, _, I1.laid (t' := s1.toks) (o := .frz { cls := .type "tuple", data := .seq us.toArray } (.tup xs)) (fun b u e => Heap.get?_push_of_some _ e) (Nat.le_refl _) ⟨Heap.get?_push_size _ rfl, z, us, r, ⟨_, Heap.get?_push_size _ rfl, rfl, _, rfl⟩⟩, rfl,
    q _ _ (I1.hok.fresh (Nat.le_refl _)) rfl⟩
def rTupF (K : PySem.W.Frag) : List V → Hp → VK → Prop := fun xs H Q => ∃ p ys, xs = [.ref p] ∧ SqL K H p ys ∧ ∀ l o, H l = none → o.dict = none → Q (.ref l) (upd H l (.frz o (.tup ys)))
theorem call_tupF {X : Cx} {K : PySem.W.Frag} (e : X.K = K) : CallR X (.type "tuple") (rTupF K) := by
  subst e
  intro pins s σ H xs us Q I r h
  obtain ⟨p, ys, rfl, hq, q⟩ := h
  obtain ⟨u, rfl, rx⟩ := vals1 r
  cases rx
  obtain ⟨its, r2, pl, hz⟩ := I.list hq
  have nl := r2.length
  refine call_tuple_list pl.isList (fun h' kp => ?_) (by simp only [List.size_toArray] <;> omega)
  have J : Inv X pins σ H { s with heap := h' } := I.kept (t' := s.toks) kp
  exact ⟨.ref h'.objs.size, _, J.laid (t' := s.toks) (o := .frz { cls := .type "tuple", data := .seq its.toArray } (.tup ys)) (fun b o e => Heap.get?_push_of_some _ e) (Nat.le_refl _) ⟨Heap.get?_push_size _ rfl, hz, its, r2, IsTup.new _ _⟩, rfl, q _ _ (J.hok.fresh (Nat.le_refl _)) rfl⟩
theorem two_of {X : Cx} {pins : List (Addr × Obj)} {σ : L2.St} {H : Hp} {s : Shared} (I : Inv X pins σ H s) : ∀ {ps : List Addr} {kvs : List (Key × V)}, Paired (fun p kv => SqT X.K H p [kV kv.1, kv.2]) ps kvs →
    ∃ (prs : List (Key × Value)) (qs : List (Value × Value)), KV kvs prs ∧ prs.length = ps.length ∧ qs.length = ps.length ∧
      ∀ (j : Nat) (k v : Value), qs[j]? = some (k, v) → (∃ b, ps[j]? = some b ∧ IsTup s.heap b #[k, v]) ∧ ∃ key, prs[j]? = some (key, v) ∧ (mixKind X.prog X.w).is key k = true
  | _, _, .nil => ⟨[], [], .nil, rfl, rfl, fun j k v e => by simp at e⟩
  | _, _, .cons (a := p) (b := kv) h t => by
    obtain ⟨prs, qs, r, l1, l2, hp⟩ := two_of I t
    obtain ⟨its, rv, ht, _⟩ := I.tuple h
    obtain ⟨u, y, rfl, ru, ry⟩ := vals2 rv
    refine ⟨(kv.1, y) :: prs, (u, y) :: qs, .cons ⟨rfl, ry⟩ r, by rw [List.length_cons, List.length_cons, l1], by rw [List.length_cons, List.length_cons, l2], fun j k v e => ?_⟩
    cases j with
    | zero =>
      cases Option.some.inj e
      exact ⟨⟨p, rfl, ht⟩, kv.1, rfl, kV_is ru⟩
    | succ j => exact hp j k v e
def rDictT (K : PySem.W.Frag) : List V → Hp → VK → Prop := fun xs H Q => ∃ (a : Addr) (ps : List Addr) (kvs : List (Key × V)), xs = [.ref a] ∧ NdT H a (ps.map V.ref) ∧ Paired (fun p kv => SqT K H p [kV kv.1, kv.2]) ps kvs ∧
  ∀ p, H p = none → Q (.ref p) (upd H p (.dK (mergeK [] kvs)))
theorem call_dictT {X : Cx} {K : PySem.W.Frag} (e : X.K = K) (hc : X.calm = true) : CallR X (.type "dict") (rDictT K) := by
  subst e
  intro pins s σ H xs us Q I r h
  obtain ⟨a, ps, kvs, rfl, ⟨o, hq, hd⟩, hp, q⟩ := h
  obtain ⟨u, rfl, rx⟩ := vals1 r
  cases rx
  obtain ⟨ho, hz, its, rv, o2, ho2, hc2, n, hdat⟩ := I.hok a _ hq
  rw [ho] at ho2
  cases ho2
  have ei := refs_at rv
  subst ei
  rw [List.length_map] at hz
  obtain ⟨prs, qs, rel, l1, l2, hpr⟩ := two_of I hp
  have arg := PairArg.tuple (prog := X.prog) (w := X.w) a (ps.map Value.ref).toArray (fun j => ps.getD j a) qs
  refine PySem.call_dict_pairs (knd := mixKind X.prog X.w) (kvs := prs) arg (I.ok.hd hc) ⟨⟨o, n, ho, hc2, hd, hdat⟩, by rw [List.size_toArray, List.length_map, l2], fun j k v e => ?_⟩ ⟨by rw [l1, l2], fun i key v e => ?_⟩ (by rw [l2]; exact hz) fun h' tk hd' k => ?_
  · obtain ⟨⟨b, hb, ht⟩, _⟩ := hpr j k v e
    refine ⟨by simp [List.getD, hb], ?_⟩
    show PairAt s.heap (ps.getD j a) k v
    rw [show ps.getD j a = b by simp [List.getD, hb]]
    exact .inl ht
  · obtain ⟨_, k2, h1, h2⟩ := hpr i key v e
    exact ⟨k2, h1, h2⟩
  · have hm : (s.heap.objs.size == sysModules) = false := beq_eq_false_iff_ne.mpr (Nat.ne_of_gt I.big)
    have hlen : (mergeK [] kvs).length ≤ sizeLine := by
      refine Nat.le_trans (length_mergeK kvs []) ?_
      rw [List.length_nil, Nat.zero_add, rel.length, l1]
      exact hz
    exact ⟨.ref s.heap.objs.size, _, I.laid (t' := tk) (o := .dK (mergeK [] kvs)) (fun b ob e => k b ob (by simp) e) (Nat.le_refl _) ⟨hlen, hm, merged [] prs, KV.merge rel .nil, hd'⟩, rfl, q _ (I.hok.fresh (Nat.le_refl _))⟩
end

theorem mk_off {H : Hp} {a b g : Addr} {o : HO} (h : H a = some o) (n1 : a ≠ b) (n2 : a ≠ g) : mk b g H a = some o := by
  unfold mk
  rw [if_neg (fun z => z.elim n1 n2)]
  exact h
/-- a heap without the thing at D -/
def hide (D : Addr) (H : Hp) : Hp := fun a => if a = D then none else H a
theorem hide_sub (D : Addr) (H : Hp) : Same (hide D H) H := fun a o h => by
  unfold hide at h
  split at h
  · cases h
  · exact h
theorem hide_at {D a : Addr} {H : Hp} {o : HO} (h : H a = some o) (n : a ≠ D) : hide D H a = some o := by
  unfold hide
  rw [if_neg n]
  exact h
theorem hide_upd (D : Addr) (H : Hp) (o : HO) : hide D (upd H D o) = hide D H := funext fun a => by
  unfold hide
  by_cases h : a = D
  · rw [if_pos h, if_pos h]
  · rw [if_neg h, if_neg h, upd_ne h]
theorem hide_same {D : Addr} {H H' : Hp} (s : Same H H') (h : H D = none) : Same H (hide D H') := fun a o e => hide_at (s a o e) (fun z => by rw [z, h] at e; cases e)
theorem hide_mono {D : Addr} {H H' : Hp} (s : Same H H') : Same (hide D H) (hide D H') := fun a o e => by
  unfold hide at e
  split at e
  · cases e
  · rename_i n
    exact hide_at (s a o e) n
theorem dps_snoc {K : PySem.W.Frag} {H : Hp} : ∀ {vs : List V} {ds : List PyData} {v : V} {d : PyData}, DpAll K H vs ds → Dp K H v d → DpAll K H (vs ++ [v]) (ds ++ [d])
  | _, _, _, _, .nil, h => .cons h .nil
  | _, _, _, _, .cons a t, h => .cons a (dps_snoc t h)

theorem dv_digits100 {b : List Nat} (h : NumText.AllDigits b) (l : b.length ≤ 1500) : NumText.digitsVal b < 2 ^ 8000 := Nat.lt_trans (Nat.lt_of_lt_of_le (dv_lt _ h) (Nat.pow_le_pow_right (by decide) l)) (pow10_2000 (k := 1500) (by decide))
theorem rok_small {l : List Nat} (h : l.length ≤ 1500) : Rok l := by
  refine ⟨by omega, fun a b da db => ⟨fun e hb => log_gcd hb (dv_digits100 db ?_), fun e => ?_⟩⟩
  all_goals
    have e2 : (unsg l).length ≤ l.length := by
      unfold unsg
      split
      · exact Nat.le_succ _
      · exact Nat.le_refl _
    rw [e, List.length_append, List.length_cons] at e2
    omega
theorem numL_head {n c : Nat} {r : List Nat} (h : TL.numL n = c :: r) : c ≠ 45 := by
  have := TL.numL_digits n c (by rw [h]; exact List.mem_cons_self ..)
  omega
theorem unsg_num (n : Nat) (t : List Nat) : unsg (TL.numL n ++ t) = TL.numL n ++ t ∧ neg1 (TL.numL n ++ t) = false := by
  cases h : TL.numL n with
  | nil => exact absurd h (TL.numL_ne n)
  | cons c r =>
    have hc := numL_head h
    refine ⟨?_, ?_⟩
    · unfold unsg
      split
      · rename_i w
        exact absurd (List.cons.inj w).1 hc
      · rfl
    · unfold neg1
      rw [decide_eq_false_iff_not]
      intro z
      exact hc (Option.some.inj z)
theorem unsg_int (n : Int) (t : List Nat) : unsg (intL n ++ t) = TL.numL n.natAbs ++ t ∧ neg1 (intL n ++ t) = decide (n < 0) := by
  unfold intL
  by_cases h : n < 0
  · rw [if_pos h, decide_eq_true h]
    exact ⟨rfl, rfl⟩
  · rw [if_neg h, decide_eq_false h]
    exact unsg_num _ t
theorem digs_num (n : Nat) : digs (TL.numL n) = true := digs_iff.mpr ⟨TL.numL_ne n, TL.numL_digits n⟩
theorem sgnd_int {n : Int} {l : List Nat} (h : neg1 l = decide (n < 0)) : sgnd l n.natAbs = n := by
  unfold sgnd
  rw [h]
  by_cases c : n < 0
  · rw [decide_eq_true c, if_pos rfl]
    omega
  · rw [decide_eq_false c, if_neg Bool.false_ne_true]
    omega
theorem intL_pos {n : Int} (h : 0 ≤ n) : intL n = TL.numL n.natAbs := if_neg (by omega)
theorem readL_rat {z : Int × Int} (h : Red z) : readL (ratL z) = some z := by
  have hp := h.pos
  unfold ratL
  split
  · rename_i e
    have u := unsg_int z.1 []
    rw [List.append_nil, List.append_nil] at u
    unfold readL
    rw [u.1, readU_digs (digs_num _), TL.numL_val, sgnd_int u.2]
    have e2 := nrm_of h
    rw [e] at e2
    rw [e2]
  · have u := unsg_int z.1 (47 :: intL z.2)
    unfold readL
    rw [u.1, intL_pos (n := z.2) (by omega), readU_mark rfl (TL.numL_digits _) (by rfl), if_pos ⟨digs_num _, digs_num _⟩]
    unfold markOf
    rw [if_neg (by decide), if_pos rfl, TL.numL_val, TL.numL_val, if_neg (by omega)]
    rw [← intL_pos (n := z.2) (by omega), sgnd_int u.2, show ((z.2.natAbs : Nat) : Int) = z.2 by omega, nrm_of h]
theorem not_mem_num {n c : Nat} (h : isD c = false) : c ∉ TL.numL n := not_mem_digs (digs_num n) h
theorem intL_le {n : Int} {k : Nat} (hk : 0 < k) (h : n.natAbs < 10 ^ k) : (intL n).length ≤ k + 1 := by
  have := TL.numL_len hk h
  unfold intL
  split
  · rw [List.length_cons]
    omega
  · omega
theorem int_txt (i : Int) : Str.ofString (toString i) = SX.S (intL i) := by
  cases i with
  | ofNat n => 
    rw [show Int.ofNat n = ((n : Nat) : Int) from rfl, SX.num_S]
    exact congrArg SX.S (intL_pos (n := (n : Int)) (by omega)).symm
  | negSucc n =>
    have e : toString (Int.negSucc n) = "-" ++ toString (((n + 1 : Nat) : Int)) := rfl
    have e2 : Str.ofString (toString (((n + 1 : Nat) : Int))) = SX.S (TL.numL (n + 1)) := SX.num_S (n + 1)
    rw [Str.ofString_eq_toList] at e2
    have e3 := SX.S_inj e2
    rw [e, Str.ofString_eq_toList, String.toList_append, List.map_append, e3]
    have e4 : intL (Int.negSucc n) = 45 :: TL.numL (n + 1) := if_pos (Int.negSucc_lt_zero n)
    rw [e4]
    rfl
theorem log700 {n : Int} (h : n.natAbs < 2 ^ 700) : n.natAbs.log2 < 1920 := PySem.Flt.log2_lt_of (by decide) (Nat.lt_trans h (by decide +kernel))
theorem intL_700 {n : Int} (h : n.natAbs < 2 ^ 700) : (intL n).length ≤ 212 := intL_le (k := 211) (by decide) (Nat.lt_trans h (by decide +kernel))
theorem small5000 {n : Int} (h : n.natAbs < 2 ^ 700) : n.natAbs < 10 ^ 5000 := Nat.lt_trans h (by decide +kernel)

def Asc (l : List Nat) : Prop := ∀ c ∈ l, c < 128
theorem Asc.app {a b : List Nat} (x : Asc a) (y : Asc b) : Asc (a ++ b) := fun c hc => by
  rcases List.mem_append.mp hc with h | h
  · exact x c h
  · exact y c h
theorem Asc.cons {a : List Nat} {c : Nat} (h : c < 128) (x : Asc a) : Asc (c :: a) := fun d hd => by
  rcases List.mem_cons.mp hd with rfl | hd
  · exact h
  · exact x d hd
theorem Asc.nil : Asc [] := fun c hc => by cases hc
theorem Asc.take {a : List Nat} (k : Nat) (x : Asc a) : Asc (a.take k) := fun c hc => x c (List.mem_of_mem_take hc)
theorem Asc.drop {a : List Nat} (k : Nat) (x : Asc a) : Asc (a.drop k) := fun c hc => x c (List.mem_of_mem_drop hc)

theorem strS {l : List Nat} (h : Asc l) : PyData.strOk (SX.S l) = true := by
  unfold PyData.strOk
  rw [← Array.all_toList, List.all_eq_true]
  intro c hc
  rw [decide_eq_true_eq]
  refine Nat.lt_trans (h c ?_) (by decide)
  rw [show (SX.S l).cps.toList = l by simp [SX.S]] at hc
  exact hc

/-! ### the texts of tables and limits, as lists of code points -/
def oD : Option PyData → PyData | none => .none | some d => d
def zD : Option (Int × Int) → PyData | none => .none | some z => rat z.1 z.2
def cutE (l : List Nat) : List Nat × List Nat := match TL.par [32, 61, 32] [] l with
  | some pq => pq
  | none => (l, [])
def readE (l : List Nat) : Option PyData := match readL (cutE l).2 with
  | none => none
  | some z => if nameL (cutE l).1 = true then some (.tuple [.str (SX.S (cutE l).1), rat z.1 z.2]) else none
abbrev fromL : List Nat := [102, 114, 111, 109]
abbrev toL : List Nat := [116, 111]
abbrev OZ := Option (Int × Int)
def boundsB (marks : List (List Nat)) (ns : List OZ) : Option (OZ × OZ) :=
  if ns.length ≠ marks.length ∨ none ∈ ns then none
  else if marks = [] then some (none, none)
  else if marks = [fromL] then some (ns.headD none, none)
  else if marks = [toL] then some (none, ns.headD none)
  else if marks = [fromL, toL] then some (ns.headD none, (ns.drop 1).headD none)
  else none
def readB (ws : List (List Nat)) : Option (OZ × OZ) := boundsB (altL ws) ((altL (ws.drop 1)).map readL)
def limD (x : List Nat) (b : OZ × OZ) : PyData := .tuple [.str (SX.S x), zD b.1, zD b.2]
def limOf (n : List Nat) (ws : List (List Nat)) : Option PyData := match readB ws with
  | none => none
  | some b => if nameL n = true then some (limD n b) else none
def readM (l : List Nat) : Option PyData := match TL.spl [32] 0 [] l with
  | [] => none
  | n :: ws => limOf n ws
def partsL (l : List Nat) : List (List Nat) := if l = [] then [] else TL.spl [44, 32] 0 [] l
def isNo : Option PyData → Bool | none => true | some _ => false
def foundD (ds : List (Option PyData)) : PyData :=
  if ds.any isNo = true then .tuple [.str "bad", .int ((ds.findIdx isNo : Nat) : Int)] else .tuple [.str "read", .tuple (ds.map oD)]
def entL (x : List Nat) (z : Int × Int) : List Nat := x ++ ([32, 61, 32] ++ ratL z)
def lowW (lo : OZ) : List (List Nat) := match lo with | none => [] | some z => [fromL, ratL z]
def highW (hi : OZ) : List (List Nat) := match hi with | none => [] | some z => [toL, ratL z]
def limL (x : List Nat) (lo hi : OZ) : List Nat := TL.joinL [32] (x :: (lowW lo ++ highW hi))
/-! ### what is read of what was written -/
theorem name_az {x : List Nat} (h : nameL x = true) {c : Nat} (hc : c ∈ x) : az c = true := by
  unfold nameL at h
  simp only [Bool.and_eq_true] at h
  exact List.all_eq_true.mp h.1.1.2 c hc
theorem name_no {x : List Nat} (h : nameL x = true) {c : Nat} (hc : az c = false) : c ∉ x := fun z => by
  rw [name_az h z] at hc
  cases hc
theorem name_len {x : List Nat} (h : nameL x = true) : x.length < 9 ∧ x ≠ [] := by
  unfold nameL at h
  simp only [Bool.and_eq_true] at h
  exact ⟨of_decide_eq_true h.1.1.1.2, of_decide_eq_true h.1.1.1.1⟩
theorem ratL_signs {z : Int × Int} {c : Nat} (hc : c ∈ ratL z) : isD c = true ∨ c = 45 ∨ c = 47 := by
  have key : ∀ n : Int, ∀ c ∈ intL n, isD c = true ∨ c = 45 ∨ c = 47 := fun n c hc => by
    unfold intL at hc
    split at hc
    · rcases List.mem_cons.mp hc with e | e
      · exact .inr (.inl e)
      · exact .inl (ad_isD (TL.numL_digits _) e)
    · exact .inl (ad_isD (TL.numL_digits _) hc)
  unfold ratL at hc
  split at hc
  · exact key _ _ hc
  · rcases List.mem_append.mp hc with e | e
    · exact key _ _ e
    · rcases List.mem_cons.mp e with e | e
      · exact .inr (.inr e)
      · exact key _ _ e
theorem ratL_no {z : Int × Int} {c : Nat} (h1 : isD c = false) (h2 : c ≠ 45) (h3 : c ≠ 47) : c ∉ ratL z := fun y => by
  rcases ratL_signs y with e | e | e
  · rw [e] at h1
    cases h1
  · exact h2 e
  · exact h3 e
theorem cut_ent {x : List Nat} (h : nameL x = true) (z : Int × Int) : cutE (entL x z) = (x, ratL z) := by
  unfold cutE entL
  rw [show TL.par [32, 61, 32] [] (x ++ ([32, 61, 32] ++ ratL z)) = some (x, ratL z) from SX.par_head _ (name_no h (by rfl))]
theorem read_ent {x : List Nat} {z : Int × Int} (h : nameL x = true) (hz : Red z) : readE (entL x z) = some (.tuple [.str (SX.S x), rat z.1 z.2]) := by
  unfold readE
  rw [cut_ent h, readL_rat hz]
  show (if nameL x = true then _ else _) = _
  rw [if_pos h]
def RedO : OZ → Prop | none => True | some z => Red z
theorem bounds_back {lo hi : OZ} (h1 : RedO lo) (h2 : RedO hi) : readB (lowW lo ++ highW hi) = some (lo, hi) := by
  cases lo with
  | none =>
    cases hi with
    | none => rfl
    | some z =>
      show boundsB [toL] [readL (ratL z)] = _
      rw [readL_rat h2]
      rfl
  | some y =>
    cases hi with
    | none =>
      show boundsB [fromL] [readL (ratL y)] = _
      rw [readL_rat h1]
      rfl
    | some z =>
      show boundsB [fromL, toL] [readL (ratL y), readL (ratL z)] = _
      rw [readL_rat h1, readL_rat h2]
      rfl
theorem words_no {x : List Nat} {lo hi : OZ} (h : nameL x = true) {c : Nat} (c1 : az c = false) (c2 : isD c = false) (c3 : c ≠ 45) (c4 : c ≠ 47) : ∀ p ∈ x :: (lowW lo ++ highW hi), c ∉ p := by
  have f1 : c ∉ fromL := fun e => by
    simp only [List.mem_cons, List.not_mem_nil, or_false] at e
    rcases e with rfl | rfl | rfl | rfl <;> cases c1
  have f2 : c ∉ toL := fun e => by
    simp only [List.mem_cons, List.not_mem_nil, or_false] at e
    rcases e with rfl | rfl <;> cases c1
  intro p hp
  rcases List.mem_cons.mp hp with rfl | hp
  · exact name_no h c1
  · rcases List.mem_append.mp hp with hp | hp
    · cases lo with
      | none => cases hp
      | some z =>
        rcases List.mem_cons.mp hp with rfl | hp
        · exact f1
        · rw [List.mem_singleton.mp hp]
          exact ratL_no c2 c3 c4
    · cases hi with
      | none => cases hp
      | some z =>
        rcases List.mem_cons.mp hp with rfl | hp
        · exact f2
        · rw [List.mem_singleton.mp hp]
          exact ratL_no c2 c3 c4
theorem read_lim {x : List Nat} {lo hi : OZ} (h : nameL x = true) (h1 : RedO lo) (h2 : RedO hi) : readM (limL x lo hi) = some (limD x (lo, hi)) := by
  unfold readM limL
  rw [SX.spl_join (List.cons_ne_nil _ _) (words_no h (by rfl) (by rfl) (by decide) (by decide))]
  show limOf x (lowW lo ++ highW hi) = _
  unfold limOf
  rw [bounds_back h1 h2]
  show (if nameL x = true then _ else _) = _
  rw [if_pos h]
/-! ### parts -/
theorem joinL_two (sep a b : List Nat) (r : List (List Nat)) : TL.joinL sep (a :: b :: r) = a ++ sep ++ TL.joinL sep (b :: r) := by
  first
    | rfl
    | simp [TL.joinL]
theorem parts_join {ps : List (List Nat)} (h : ∀ p ∈ ps, 44 ∉ p) (h1 : ps ≠ [[]]) : partsL (TL.joinL [44, 32] ps) = ps := by
  cases ps with
  | nil => rfl
  | cons a r =>
    have ne : TL.joinL [44, 32] (a :: r) ≠ [] := by
      cases r with
      | nil =>
        intro e
        have e2 : a = [] := e
        exact h1 (by rw [e2])
      | cons b r =>
        rw [joinL_two]
        intro e
        have := congrArg List.length e
        rw [List.length_append, List.length_append] at this
        simp at this
    unfold partsL
    rw [if_neg ne]
    exact SX.spl_join (List.cons_ne_nil _ _) h
/-! ### what is not of the form -/
def badT : List (List Nat) := (["a=3", "a =3", "a = ", "a = x", " a = 3", "A = 3", "a = 3 ", "a = 1/0", "a  = 3", "", "sum = 3", "a = -", "a = 1.", "a = +1", "a", "abcdefghi = 1", "a = 3 4", "a = 1/-2", "a: 3"] : List String).map fun x => (Str.ofString x).cps.toList
def badM : List (List Nat) := (["a from", "a from x", "a to 3 from 1", "a from 1 from 2", "from 1", "A", "a  from 1", "a from 1 to", "", "sum to 1", "a from 1 to 2 3", "a To 1", "a = 1", "a from 1/0", "a from - to 1", " a"] : List String).map fun x => (Str.ofString x).cps.toList
theorem bad_table : ∀ l ∈ badT, (readE l).isNone = true ∧ 44 ∉ l ∧ l.length ≤ 20 := by decide +kernel
theorem bad_limits : ∀ l ∈ badM, (readM l).isNone = true ∧ 44 ∉ l ∧ l.length ≤ 20 := by decide +kernel
theorem par_len (S : List Nat) : ∀ (a acc p q : List Nat), TL.par S acc a = some (p, q) → p.length ≤ acc.length + a.length ∧ q.length ≤ a.length
  | [], acc, p, q, h => by cases h
  | c :: r, acc, p, q, h => by
    unfold TL.par at h
    split at h
    · cases h
      exact ⟨Nat.le_add_right _ _, by rw [List.length_drop]; omega⟩
    · have := par_len S r (acc ++ [c]) p q h
      rw [List.length_append, List.length_singleton] at this
      rw [List.length_cons]
      omega
theorem cut_len (l : List Nat) : (cutE l).1.length ≤ l.length ∧ (cutE l).2.length ≤ l.length := by
  unfold cutE
  split
  · rename_i pq h
    have := par_len _ l [] pq.1 pq.2 h
    rw [List.length_nil] at this
    omega
  · exact ⟨Nat.le_refl _, Nat.zero_le _⟩
theorem part_cut (l : List Nat) : ∃ m, Txt.partition (SX.S l) (Str.ofString " = ") = (SX.S (cutE l).1, m, SX.S (cutE l).2) := by
  rw [show Str.ofString " = " = SX.S [32, 61, 32] by decide +kernel]
  unfold cutE
  split
  · rename_i pq h
    exact ⟨_, SX.partition_some (List.cons_ne_nil _ _) h⟩
  · rename_i h
    exact ⟨_, SX.partition_none (List.cons_ne_nil _ _) h⟩
theorem spl_len (S : List Nat) : ∀ (a : List Nat) (k : Nat) (acc : List Nat), (TL.spl S k acc a).length ≤ a.length + 1 ∧ ∀ p ∈ TL.spl S k acc a, p.length ≤ acc.length + a.length
  | [], k, acc => by
    rw [TL.spl_nil]
    exact ⟨Nat.le_refl _, fun p hp => by rw [List.mem_singleton.mp hp]; exact Nat.le_refl _⟩
  | c :: r, 0, acc => by
    by_cases h : TL.pre S (c :: r) = true
    · rw [TL.spl_hit h]
      have ih := spl_len S r (S.length - 1) []
      refine ⟨by rw [List.length_cons, List.length_cons]; omega, fun p hp => ?_⟩
      rw [List.length_cons]
      rcases List.mem_cons.mp hp with rfl | hp
      · omega
      · have := ih.2 p hp
        rw [List.length_nil] at this
        omega
    · rw [TL.spl_miss (Bool.eq_false_iff.mpr h)]
      have ih := spl_len S r 0 (acc ++ [c])
      refine ⟨by rw [List.length_cons]; omega, fun p hp => ?_⟩
      have := ih.2 p hp
      rw [List.length_append, List.length_singleton] at this
      rw [List.length_cons]
      omega
  | c :: r, k + 1, acc => by
    have ih := spl_len S r k acc
    have e : TL.spl S (k + 1) acc (c :: r) = TL.spl S k acc r := rfl
    rw [e]
    refine ⟨by rw [List.length_cons]; omega, fun p hp => ?_⟩
    have := ih.2 p hp
    rw [List.length_cons]
    omega
theorem spl_ne (S : List Nat) : ∀ (a : List Nat) (k : Nat) (acc : List Nat), TL.spl S k acc a ≠ []
  | [], k, acc => by
    rw [TL.spl_nil]
    exact List.cons_ne_nil _ _
  | c :: r, 0, acc => by
    by_cases h : TL.pre S (c :: r) = true
    · rw [TL.spl_hit h]
      exact List.cons_ne_nil _ _
    · rw [TL.spl_miss (Bool.eq_false_iff.mpr h)]
      exact spl_ne S r 0 _
  | c :: r, k + 1, acc => spl_ne S r k acc
theorem readE_no {l : List Nat} (h : readL (cutE l).2 = none ∨ ¬ nameL (cutE l).1 = true) : readE l = none := by
  unfold readE
  rcases h with h | h
  · rw [h]
  · cases readL (cutE l).2 with
    | none => rfl
    | some z => exact if_neg h
theorem readE_yes {l : List Nat} {z : Int × Int} (h : readL (cutE l).2 = some z) (n : nameL (cutE l).1 = true) : readE l = some (.tuple [.str (SX.S (cutE l).1), rat z.1 z.2]) := by
  unfold readE
  rw [h]
  exact if_pos n

def spReadNum (K : PySem.W.Frag) : Sp := fun vs H Q _ => ∃ l : List Nat, vs = [tx l] ∧ l.length ≤ 1000 ∧ ∀ r H', Same H H' → Dp K H' r (zD (readL l)) → Q r H'
def spReadOf (K : PySem.W.Frag) (rd : List Nat → Option PyData) : Sp := fun vs H Q _ => ∃ l : List Nat, vs = [tx l] ∧ l.length ≤ 100 ∧ Asc l ∧ ∀ r H', Same H H' → Dp K H' r (oD (rd l)) → Q r H'
section
variable {P : Program} {w : World} {K : PySem.W.Frag} {mg : Str → Option Value} {base : Heap}
theorem ok_read_number {C : Addr} (Ti : ErrF P w K mg base "InvalidText" "text" C)
    (GA : Kn P w K mg base (L2.CX P w) "read_ratio" 3 ["text"] (spReadRat C)) (D : Df K mg "read_number" s_read_number ["text"]) : Kn P w K mg base CX0 "read_number" 4 ["text"] (spReadNum K) := by
  obtain ⟨f, fd, F, hm, hb⟩ := D
  obtain ⟨f_read_ratio, fd_read_ratio, G_read_ratio, m_read_ratio, k_read_ratio, b_read_ratio⟩ := GA
  refine ⟨f, fd, F.ok sc_read_number (fun vs H Q E h => ?_) (fun cdv A outer s H vs Q E hr h => ?_), hm, F.kp, hb⟩
  · obtain ⟨l, rfl, _⟩ := h
    rfl
  · obtain ⟨l, rfl, hl, q⟩ := h
    refine ⟨_, (pss_one (ps_try_only rfl rfl ⟨rfl, by decide, Or.inl Ti.gC⟩ takes0 (fun W pn xe tk _ => (pss_one (ps_ret (pe_callS G_read_ratio (hr.mono (by omega)) rfl m_read_ratio k_read_ratio b_read_ratio (fun σ => passAt tk σ) (pa_cons (pv 0) pa_nil))))) (fun ea oe cls ed pn hz hf => (pss_one (ps_ret pe_non))))), ?_⟩
    refine ⟨_, rfl, l, rfl, rok_small (by omega), fun z p H1 e s1 hp => ?_, fun e dx H1 s1 hx => ?_⟩
    · refine q _ _ s1 ?_
      rw [e]
      exact dp_rat hp
    · refine ⟨true, Ti.ex, fun _ ea hea => ?_, fun z => nomatch z⟩
      exact q _ _ s1 (by rw [e]; exact .non)
theorem ok_read_entry (GA : Kn P w K mg base CX0 "read_number" 4 ["text"] (spReadNum K)) (GN : Kn P w K mg base CX0 "is_name" 1 ["value"] (spDS K nameD))
    (D : Df K mg "read_entry" s_read_entry ["part"]) : Kn P w K mg base CX0 "read_entry" 5 ["part"] (spReadOf K readE) := by
  obtain ⟨f, fd, F, hm, hb⟩ := D
  obtain ⟨f_read_number, fd_read_number, G_read_number, m_read_number, k_read_number, b_read_number⟩ := GA
  obtain ⟨f_is_name, fd_is_name, G_is_name, m_is_name, k_is_name, b_is_name⟩ := GN
  refine ⟨f, fd, F.ok sc_read_entry (fun vs H Q E h => ?_) (fun cdv A outer s H vs Q E hr h => ?_), hm, F.kp, hb⟩
  · obtain ⟨l, rfl, _⟩ := h
    rfl
  · obtain ⟨l, rfl, hl, _, q⟩ := h
    refine ⟨_, (pss_cons (ps_asg (pe_bm PySem.F.plainAttrs_str PySem.F.slot_str_partition PySem.F.type_str_partition mt_partition (pv 0) (pa_cons pe_str pa_nil)) (pg_tup (by rfl) (pgs_cons (pg_name (i := 1) sc_read_entry.nd rfl (Or.inl rfl)) (pgs_cons (pg_name (i := 2) sc_read_entry.nd rfl (Or.inl rfl)) (pgs_cons (pg_name (i := 3) sc_read_entry.nd rfl (Or.inl rfl)) pgs_nil)))))
      (pss_cons (ps_set (i := 4) sc_read_entry.nd rfl (Or.inl rfl) (pe_call G_read_number (hr.mono (by omega)) rfl m_read_number k_read_number b_read_number .nil pass0 (pa_cons (pv 3) pa_nil)))
      (pss_cons (ps_if (PW.pt (pw_or (pt_not (pt_val (pe_call G_is_name (hr.mono (by omega)) rfl m_is_name k_is_name b_is_name .nil pass0 (pa_cons (pv 1) pa_nil)))) (pw_or1 (pt_cmpR op_isN (pv 4) pe_non (nomark _))))) (pss_one (ps_ret pe_non)) pss_nil)
      (pss_one (ps_ret (pe_tup (pa_cons (pv 1) (pa_cons (pv 4) pa_nil)))))))), ?_⟩
    obtain ⟨m, hp⟩ := part_cut l
    have cl := cut_len l
    refine ⟨_, rfl, rfl, _, _, rfl, rfl, (by decide +kernel), (by rw [SX.S_len]; exact fitN (by omega)), fun p np => ?_⟩
    rw [hp]
    have s1 := same_new np (.tup [V.str (SX.S (cutE l).1), V.str m, V.str (SX.S (cutE l).2)])
    refine ⟨p, _, rfl, SqT.of upd_same, rfl, _, _, rfl, _, _, rfl, _, _, rfl, rfl, ?_⟩
    refine ⟨_, rfl, (cutE l).2, rfl, by omega, fun r H2 s2 hr2 => ?_⟩
    have hshort : shortD (.str (SX.S (cutE l).1)) = true := decide_eq_true (by rw [SX.S_len]; omega)
    refine ⟨_, rfl, _, .str (SX.S (cutE l).1), rfl, .str _, hshort, fun H3 s3 => ?_⟩
    have s123 := s1.trans (s2.trans s3)
    have hr3 := dp_same s3 _ _ hr2
    rw [nameD_S]
    refine ⟨_, rfl, ?_⟩
    refine ite2 (fun c1 => ?_) (fun c1 => ?_)
    · have hn : ¬ nameL (cutE l).1 = true := fun z => by
        rw [z] at c1
        cases c1
      exact q _ H3 s123 (by rw [readE_no (.inr hn)]; exact .non)
    · have hn : nameL (cutE l).1 = true := by
        cases z : nameL (cutE l).1 with
        | true => rfl
        | false => exact absurd (by rw [z]; rfl) c1
      refine ⟨_, rfl, rfl, _, rfl, ?_⟩
      cases hz : readL (cutE l).2 with
      | none =>
        rw [hz] at hr3
        cases hr3
        exact q _ H3 s123 (by rw [readE_no (.inl hz)]; exact .non)
      | some z =>
        rw [hz] at hr3
        refine ite2 (fun c2 => ?_) (fun c2 => ?_)
        · cases (show Dp K H3 r (rat z.1 z.2) from hr3) with
          | tup _ _ => exact nomatch (of_decide_eq_true c2)
        · refine ⟨_, rfl, _, rfl, (by show 2 ≤ sizeLine; decide), fun p5 np5 => ?_⟩
          have s5 := same_new np5 (.tup [tx (cutE l).1, r])
          refine q _ _ (s123.trans s5) ?_
          rw [readE_yes hz hn]
          exact .tup (SqT.of upd_same) (.cons (.str _) (.cons (dp_same s5 _ _ hr3) .nil))
end

theorem u65 {k : Nat} {A : Around} (r : Room k A) : A.units + 65 < cLine := by
  have := r.un
  omega
abbrev sxs (ps : List (List Nat)) : List V := (ps.map SX.S).map V.str
def spParts : Sp := fun vs H Q _ => ∃ l : List Nat, vs = [tx l] ∧ l.length ≤ 4000 ∧ ∀ D H', Same H H' → H D = none → H' D = some (.lst (sxs (partsL l))) → Q (.ref D) H'
def tuply : Option PyData → Prop | none => True | some (.tuple _) => True | _ => False
def spAll (K : PySem.W.Frag) (C : Addr) : Sp := fun vs H Q E => ∃ (a : Addr) (xs : List V) (ds : List (Option PyData)), vs = [.ref a] ∧ SqL K H a xs ∧ DpAll K H xs (ds.map oD) ∧ SeqAt.shaped (.list (ds.map oD)) = true ∧ (∀ d ∈ ds, tuply d) ∧
  (ds.any isNo = false → ∀ r H', Same H H' → Dp K H' r (.tuple (ds.map oD)) → Q r H') ∧
  (ds.any isNo = true → ∀ dx H', Same H H' → H' dx = some (.xd [("at", .int ((ds.findIdx isNo : Nat) : Int))]) → E (.ref C) (some dx) H')
def spReadAll (K : PySem.W.Frag) (C : Addr) (rd : List Nat → Option PyData) : Sp := fun vs H Q E => ∃ l : List Nat, vs = [tx l] ∧ l.length ≤ 4000 ∧ (∀ p ∈ partsL l, p.length ≤ 100 ∧ Asc p) ∧ (partsL l).length ≤ 100 ∧
  (((partsL l).map rd).any isNo = false → ∀ r H', Same H H' → Dp K H' r (.tuple (((partsL l).map rd).map oD)) → Q r H') ∧
  (((partsL l).map rd).any isNo = true → ∀ dx H', Same H H' → H' dx = some (.xd [("at", .int ((((partsL l).map rd).findIdx isNo : Nat) : Int))]) → E (.ref C) (some dx) H')
theorem eqv_no {d : Option PyData} (h : tuply d) : PyData.eqv (oD d) .none = isNo d := by
  cases d with
  | none => rfl
  | some e => cases e <;> first | rfl | cases h
section
variable {P : Program} {w : World} {K : PySem.W.Frag} {mg : Str → Option Value} {base : Heap}
theorem ok_errinitB {x : Str} {C f : Addr} {fd : FuncData} (F : Fun K "__init__" x s_BadText_init f fd) (ox : OexC K C) (no : PySem.W.findIn K (.ref C) "at" = some none) : FnOk P w K mg base CX0 1 f fd ["self", "at"] (spErrInit C "at") := by
  refine F.ok sc_BadText_init (fun vs H Q E h => ?_) (fun cdv A outer s H vs Q E hr h => ?_)
  · obtain ⟨e, v, rfl, _⟩ := h
    rfl
  · obtain ⟨e, v, rfl, he, q⟩ := h
    refine ⟨_, pss_one (ps_ost (pv 0) (pv 1)), ?_⟩
    exact ⟨_, rfl, _, rfl, e, C, rfl, ox, no, .inl ⟨he, fun dx h1 h2 => q dx h1 h2⟩⟩
theorem ok_parts_of (D : Df K mg "parts_of" s_parts_of ["text"]) : Kn P w K mg base CX0 "parts_of" 1 ["text"] spParts := by
  obtain ⟨f, fd, F, hm, hb⟩ := D
  refine ⟨f, fd, F.ok sc_parts_of (fun vs H Q E h => ?_) (fun cdv A outer s H vs Q E hr h => ?_), hm, F.kp, hb⟩
  · obtain ⟨l, rfl, _⟩ := h
    rfl
  · obtain ⟨l, rfl, hl, q⟩ := h
    refine ⟨_, (pss_one (ps_ret (pe_ifExp (pt_cmpR op_eq (pv 0) pe_str (nomark _)) (pe_lst pa_nil) (pe_bm PySem.F.plainAttrs_str PySem.F.slot_str_split PySem.F.type_str_split mt_split (pv 0) (pa_cons pe_str pa_nil))))), ?_⟩
    have emp : Str.ofString "" = SX.S [] := by decide +kernel
    have sep : Str.ofString ", " = SX.S [44, 32] := by decide +kernel
    refine ⟨_, rfl, rfl, _, rfl, ?_⟩
    have ed : decide (tx l = V.str (Str.ofString "")) = decide (l = []) := by
      rw [emp, Bool.eq_iff_iff, decide_eq_true_eq, decide_eq_true_eq]
      exact ⟨fun e => SX.S_inj (by injection e), fun e => by rw [e]⟩
    refine ite2 (fun c => ?_) (fun c => ?_)
    · have e := of_decide_eq_true (ed.symm.trans c)
      refine ⟨(by show 0 ≤ sizeLine; decide), fun D hD => ?_⟩
      refine q D _ (same_new hD _) hD ?_
      rw [e]
      exact upd_same
    · have e := of_decide_eq_false (ed.symm.trans (Bool.eq_false_iff.mpr c))
      refine ⟨_, rfl, rfl, _, _, rfl, rfl, (by decide +kernel), (by rw [SX.S_len]; exact fitN (by omega)), fun D hD => ?_⟩
      refine q D _ (same_new hD _) hD ?_
      rw [sep, SX.split_S (List.cons_ne_nil _ _) (by decide)]
      unfold partsL
      rw [if_neg e]
      exact upd_same
theorem ok_all_read {C : Addr} (T : Bt mg) (Tb : ErrF P w K mg base "BadText" "at" C) (D : Df K mg "all_read" s_all_read ["found"]) : Kn P w K mg base (L2.CX P w) "all_read" 3 ["found"] (spAll K C) := by
  obtain ⟨f, fd, F, hm, hb⟩ := D
  obtain ⟨fI, fdI, iC, tI, F1, b1⟩ := Tb.ini
  refine ⟨f, fd, F.okX sc_all_read (fun vs H Q E h => ?_) (fun cdv A outer s H vs Q E hr h => ?_), hm, F.kp, hb⟩
  · obtain ⟨a, xs, ds, rfl, _⟩ := h
    rfl
  · obtain ⟨a, xs, ds, rfl, ha, hall, hsh, htu, q1, q2⟩ := h
    refine ⟨_, (pss_cons (ps_if (pt_cmpR (op_inD (u65 hr)) pe_non (pv 0) (by rfl)) (pss_one (ps_raise rfl (takes_of rfl rfl rfl rfl) (pmk_oex Tb.ox iC tI F1 (hr.mono (by omega)) b1 .nil pass0 rfl Tb.gC (pa_cons (pe_bm PySem.F.plainAttrs_list PySem.F.slot_list_index PySem.F.type_list_index (mt_indexD (u65 hr)) (pv 0) (pa_cons pe_non pa_nil)) pa_nil)))) pss_nil)
      (pss_one (ps_ret (pe_callTy (call_tupF (K := K) rfl) (by rfl) T.n_tuple (by decide +kernel) (pa_cons (pv 0) pa_nil))))), ?_⟩
    have hdl : Dp K H (.ref a) (.list (ds.map oD)) := .lst ha hall
    have eany : ((ds.map oD).any fun z => PyData.eqv z .none) = ds.any isNo := by
      rw [List.any_map, Bool.eq_iff_iff, List.any_eq_true, List.any_eq_true]
      exact ⟨fun ⟨d, hd, h⟩ => ⟨d, hd, (eqv_no (htu d hd)).symm.trans h⟩, fun ⟨d, hd, h⟩ => ⟨d, hd, (eqv_no (htu d hd)).trans h⟩⟩
    refine ⟨_, rfl, .none, _, .non, hdl, rfl, hsh, _, rfl, ?_⟩
    refine ite2 (fun c => ?_) (fun c => ?_)
    · have c1 := eany.symm.trans c
      have hlt := List.findIdx_lt_length_of_exists (xs := ds) (p := isNo) (List.any_eq_true.mp c1)
      refine ⟨_, rfl, .inl ⟨rfl, _, ha⟩, a, _, .none, ds.map oD, ds.findIdx isNo, .none, rfl, rfl, hdl, .non, hsh, rfl, ?_, rfl, fun m z' hm hz' => ?_, (by show 1 ≤ 1000; decide), fun ea na => ?_⟩
      · rw [List.getElem?_map, List.getElem?_eq_getElem hlt]
        have z := List.findIdx_getElem (xs := ds) (p := isNo) (w := hlt)
        cases w : ds[ds.findIdx isNo] with
        | none => rfl
        | some e =>
          rw [w] at z
          cases z
      · rw [List.getElem?_map] at hz'
        cases w : ds[m]? with
        | none => rw [w] at hz'; cases hz'
        | some e =>
          rw [w] at hz'
          cases hz'
          obtain ⟨hm2, rfl⟩ := List.getElem?_eq_some_iff.mp w
          rw [eqv_no (htu _ (List.getElem_mem _))]
          exact List.not_of_lt_findIdx hm
      · refine ⟨ea, _, rfl, upd_same, fun dx hdx nx => ⟨rfl, dx, [("at", .int ((ds.findIdx isNo : Nat) : Int))], upd_same, ?_, ?_, ?_⟩⟩
        · rw [upd_ne nx, upd_same]
        · rw [upd_ne nx] at hdx
          exact hdx
        · rw [upd_ne nx] at hdx
          refine q2 c1 dx _ (fun b o hbo => ?_) upd_same
          have n1 : b ≠ ea := ne_of_none hbo na
          have n2 : b ≠ dx := ne_of_none hbo hdx
          rw [upd_ne n2, del_ne n1, upd_ne n1, upd_ne n2, upd_ne n1]
          exact hbo
    · have c1 := eany.symm.trans (Bool.eq_false_iff.mpr c)
      refine ⟨_, rfl, a, xs, rfl, ha, fun p o np od => ?_⟩
      exact q1 c1 _ _ (same_new np _) (.tup (.inl (.inr ⟨o, upd_same⟩)) (dps_same (same_new np _) _ _ hall))
end

theorem name_ok {x : Str} (h : nameL x.cps.toList = true) : PyData.strOk x = true := by
  unfold nameL at h
  rw [Bool.and_eq_true, Bool.and_eq_true, Bool.and_eq_true] at h
  unfold PyData.strOk
  rw [← Array.all_toList, List.all_eq_true]
  intro c hc
  rw [decide_eq_true_eq]
  exact Nat.lt_trans (az_ascii (List.all_eq_true.mp h.1.1.2 c hc)) (by decide)
abbrev strD (xs : List Str) : PyData := .list (xs.map PyData.str)
theorem eqv_strs : ∀ xs ys : List Str, PyData.eqv (strD xs) (strD ys) = decide (xs = ys) := by
  have key : ∀ xs ys : List Str, PyData.eqvAll (xs.map PyData.str) (ys.map PyData.str) = decide (xs = ys) := by
    intro xs
    induction xs with
    | nil => intro ys; cases ys <;> rfl
    | cons x xs ih =>
      intro ys
      cases ys with
      | nil => rfl
      | cons y ys =>
        show ((x == y) && PyData.eqvAll (xs.map PyData.str) (ys.map PyData.str)) = _
        rw [ih ys, Bool.eq_iff_iff, Bool.and_eq_true, decide_eq_true_eq, decide_eq_true_eq, beq_iff_eq]
        exact ⟨fun h => by rw [h.1, h.2], fun h => ⟨(List.cons.inj h).1, (List.cons.inj h).2⟩⟩
  exact key

/-! ### data that can be laid and compared -/
def fine (n : Nat) (d : PyData) : Prop := d.canLay0 = true ∧ d.depth ≤ n
theorem lay_all : ∀ {ds : List PyData}, (∀ d ∈ ds, d.canLay0 = true) → PyData.canLayAll0 ds = true
  | [], _ => rfl
  | d :: ds, h => by
    show (d.canLay0 && PyData.canLayAll0 ds) = true
    rw [h d (List.mem_cons_self ..), lay_all fun e he => h e (List.mem_cons_of_mem _ he)]
    rfl
theorem depth_all {n : Nat} : ∀ {ds : List PyData}, (∀ d ∈ ds, d.depth ≤ n) → PyData.depthAll ds ≤ n
  | [], _ => Nat.zero_le _
  | d :: ds, h => by
    show max d.depth (PyData.depthAll ds) ≤ n
    exact Nat.max_le.mpr ⟨h d (List.mem_cons_self ..), depth_all fun e he => h e (List.mem_cons_of_mem _ he)⟩
theorem fine.lst {n : Nat} {ds : List PyData} (h : ∀ d ∈ ds, fine n d) : fine (n + 1) (.list ds) := ⟨lay_all fun d hd => (h d hd).1, by
  show PyData.depthAll ds + 1 ≤ n + 1
  exact Nat.succ_le_succ (depth_all fun d hd => (h d hd).2)⟩
theorem fine.tup {n : Nat} {ds : List PyData} (h : ∀ d ∈ ds, fine n d) : fine (n + 1) (.tuple ds) := ⟨lay_all fun d hd => (h d hd).1, by
  show PyData.depthAll ds + 1 ≤ n + 1
  exact Nat.succ_le_succ (depth_all fun d hd => (h d hd).2)⟩
theorem fine.mono {n m : Nat} {d : PyData} (h : fine n d) (l : n ≤ m) : fine m d := ⟨h.1, Nat.le_trans h.2 l⟩
theorem fine.shp {n : Nat} {d : PyData} (h : fine n d) (l : n ≤ 64) : SeqAt.shaped d = true := by
  unfold SeqAt.shaped
  rw [h.1, decide_eq_true (Nat.le_trans h.2 l)]
  rfl
theorem fine.self {n : Nat} {d : PyData} (h : fine n d) : PyData.eqv d d = true := PySem.SeqAt.eqv_refl _ h.1
theorem fine_str {x : Str} (h : PyData.strOk x = true) : fine 0 (.str x) := ⟨h, Nat.le_refl _⟩
theorem fine_int (i : Int) : fine 0 (.int i) := ⟨rfl, Nat.le_refl _⟩
theorem fine_non : fine 0 .none := ⟨rfl, Nat.le_refl _⟩
theorem fine_rat (t m : Int) : fine 1 (rat t m) := fine.tup fun d hd => by
  simp only [List.mem_cons, List.not_mem_nil, or_false] at hd
  rcases hd with rfl | rfl <;> exact fine_int _
theorem fine_z (o : OZ) : fine 1 (zD o) := by
  cases o with
  | none => exact fine_non.mono (by decide)
  | some z => exact fine_rat _ _
theorem name_okS {l : List Nat} (h : nameL l = true) : PyData.strOk (SX.S l) = true := name_ok (by rw [show (SX.S l).cps.toList = l by simp [SX.S]]; exact h)
theorem fine_E (l : List Nat) : fine 2 (oD (readE l)) := by
  unfold readE
  split
  · exact fine_non.mono (by decide)
  · split
    · rename_i n
      refine fine.tup fun d hd => ?_
      simp only [List.mem_cons, List.not_mem_nil, or_false] at hd
      rcases hd with rfl | rfl
      · exact (fine_str (name_okS n)).mono (by decide)
      · exact fine_rat _ _
    · exact fine_non.mono (by decide)
theorem fine_lim {x : List Nat} (h : nameL x = true) (b : OZ × OZ) : fine 2 (limD x b) := fine.tup fun d hd => by
  simp only [List.mem_cons, List.not_mem_nil, or_false] at hd
  rcases hd with rfl | rfl | rfl
  · exact (fine_str (name_okS h)).mono (by decide)
  · exact fine_z _
  · exact fine_z _
theorem fine_M (l : List Nat) : fine 2 (oD (readM l)) := by
  unfold readM
  split
  · exact fine_non.mono (by decide)
  · unfold limOf
    split
    · exact fine_non.mono (by decide)
    · split
      · rename_i n
        exact fine_lim n _
      · exact fine_non.mono (by decide)
theorem shp_E (ps : List (List Nat)) : SeqAt.shaped (.list ((ps.map readE).map oD)) = true := (fine.lst (n := 2) fun d hd => by
  obtain ⟨o, ho, rfl⟩ := List.mem_map.mp hd
  obtain ⟨l, _, rfl⟩ := List.mem_map.mp ho
  exact fine_E l).shp (by decide)
theorem shp_M (ps : List (List Nat)) : SeqAt.shaped (.list ((ps.map readM).map oD)) = true := (fine.lst (n := 2) fun d hd => by
  obtain ⟨o, ho, rfl⟩ := List.mem_map.mp hd
  obtain ⟨l, _, rfl⟩ := List.mem_map.mp ho
  exact fine_M l).shp (by decide)
theorem spl_asc (S : List Nat) : ∀ (a : List Nat) (k : Nat) (acc : List Nat), Asc a → Asc acc → ∀ p ∈ TL.spl S k acc a, Asc p
  | [], k, acc, _, h => by
    rw [TL.spl_nil]
    intro p hp
    rw [List.mem_singleton.mp hp]
    exact h
  | c :: r, 0, acc, ha, h => by
    have hc : c < 128 := ha c (List.mem_cons_self ..)
    have hr : Asc r := fun d hd => ha d (List.mem_cons_of_mem _ hd)
    by_cases e : TL.pre S (c :: r) = true
    · rw [TL.spl_hit e]
      intro p hp
      rcases List.mem_cons.mp hp with rfl | hp
      · exact h
      · exact spl_asc S r _ [] hr Asc.nil p hp
    · rw [TL.spl_miss (Bool.eq_false_iff.mpr e)]
      exact spl_asc S r 0 _ hr (h.app (Asc.cons hc Asc.nil))
  | c :: r, k + 1, acc, ha, h => spl_asc S r k acc (fun d hd => ha d (List.mem_cons_of_mem _ hd)) h

/-! ### data without lists -/
mutual
def noL : PyData → Bool
  | .list _ => false
  | .tuple ds => noLs ds
  | _ => true
def noLs : List PyData → Bool
  | [] => true
  | d :: ds => noL d && noLs ds
end
theorem sq_hide {K : PySem.W.Frag} {H : Hp} {D a : Addr} {xs ls : List V} (hD : H D = some (.lst ls)) (h : SqT K H a xs) : SqT K (hide D H) a xs := by
  have ne : ∀ o : HO, H a = some o → (∀ l, o ≠ .lst l) → hide D H a = some o := fun o ho no => by
    refine hide_at ho fun e => ?_
    rw [e, hD] at ho
    exact no ls (Option.some.inj ho).symm
  rcases h with (h | ⟨o, h⟩) | h
  · exact .inl (.inl (ne _ h fun l e => nomatch e))
  · exact .inl (.inr ⟨o, ne _ h fun l e => nomatch e⟩)
  · exact .inr h
mutual
theorem dp_hide {K : PySem.W.Frag} {H : Hp} {D : Addr} {ls : List V} (hD : H D = some (.lst ls)) : ∀ (d : PyData) (v : V), noL d = true → Dp K H v d → Dp K (hide D H) v d
  | .none, _, _, h => by cases h; exact .non
  | .bool b, _, _, h => by cases h; exact .bl b
  | .int i, _, _, h => by cases h; exact .int i
  | .str x, _, _, h => by cases h; exact .str x
  | .list ds, _, n, _ => by cases n
  | .tuple ds, _, n, h => by
    cases h with
    | tup hs ha => exact .tup (sq_hide hD hs) (dps_hide hD ds _ n ha)
  | .dict _, _, _, h => by cases h
theorem dps_hide {K : PySem.W.Frag} {H : Hp} {D : Addr} {ls : List V} (hD : H D = some (.lst ls)) : ∀ (ds : List PyData) (vs : List V), noLs ds = true → DpAll K H vs ds → DpAll K (hide D H) vs ds
  | [], _, _, h => by cases h; exact .nil
  | d :: ds, _, n, h => by
    have n2 := Bool.and_eq_true_iff.mp (show (noL d && noLs ds) = true from n)
    cases h with
    | cons h1 h2 => exact .cons (dp_hide hD d _ n2.1 h1) (dps_hide hD ds _ n2.2 h2)
end
mutual
theorem dp_mk {K : PySem.W.Frag} {H : Hp} {b g c : Addr} {n : Nat} (B : Box H b g c n) : ∀ (d : PyData) (v : V), noL d = true → Dp K H v d → Dp K (mk b g H) v d
  | .none, _, _, h => by cases h; exact .non
  | .bool b, _, _, h => by cases h; exact .bl b
  | .int i, _, _, h => by cases h; exact .int i
  | .str x, _, _, h => by cases h; exact .str x
  | .list _, _, n, _ => by cases n
  | .tuple ds, _, n, h => by
    cases h with
    | tup hs ha =>
      refine .tup ?_ (dps_mk B ds _ n ha)
      rcases hs with (h | ⟨o, h⟩) | h
      · exact .inl (.inl (mk_tup B h))
      · refine .inl (.inr ⟨o, ?_⟩)
        obtain ⟨gs, cs, cur, m, B, _⟩ := B
        unfold mk
        rw [if_neg]
        · exact h
        · rintro (z | z)
          · rw [z, B.hb] at h
            cases h
          · rw [z, B.hg] at h
            cases h
      · exact .inr h
  | .dict _, _, _, h => by cases h
theorem dps_mk {K : PySem.W.Frag} {H : Hp} {b g c : Addr} {n : Nat} (B : Box H b g c n) : ∀ (ds : List PyData) (vs : List V), noLs ds = true → DpAll K H vs ds → DpAll K (mk b g H) vs ds
  | [], _, _, h => by cases h; exact .nil
  | d :: ds, _, n, h => by
    have z := Bool.and_eq_true_iff.mp (show (noL d && noLs ds) = true from n)
    cases h with
    | cons h1 h2 => exact .cons (dp_mk B d _ z.1 h1) (dps_mk B ds _ z.2 h2)
end
theorem noL_z (o : OZ) : noL (zD o) = true := by cases o <;> rfl
theorem noL_E (l : List Nat) : noL (oD (readE l)) = true := by
  unfold readE
  split
  · rfl
  · split <;> rfl
theorem noL_lim (x : List Nat) (b : OZ × OZ) : noL (limD x b) = true := by
  show (true && (noL (zD b.1) && (noL (zD b.2) && true))) = true
  rw [noL_z, noL_z]
  rfl
theorem noL_M (l : List Nat) : noL (oD (readM l)) = true := by
  unfold readM
  split
  · rfl
  · unfold limOf
    split
    · rfl
    · split
      · exact noL_lim _ _
      · rfl
theorem tu_E (l : List Nat) : tuply (readE l) := by
  unfold readE
  split
  · exact trivial
  · split <;> exact trivial
theorem tu_M (l : List Nat) : tuply (readM l) := by
  unfold readM
  split
  · exact trivial
  · unfold limOf
    split
    · exact trivial
    · split <;> exact trivial

section
variable {P : Program} {w : World} {K : PySem.W.Frag} {mg : Str → Option Value} {base : Heap}
theorem ok_read_table {C : Addr} (GP : Kn P w K mg base CX0 "parts_of" 1 ["text"] spParts) (GE : Kn P w K mg base CX0 "read_entry" 5 ["part"] (spReadOf K readE)) (GA : Kn P w K mg base (L2.CX P w) "all_read" 3 ["found"] (spAll K C))
    (D : Df K mg "read_table" s_read_table ["text"]) : Kn P w K mg base (L2.CX P w) "read_table" 6 ["text"] (spReadAll K C readE) := by
  obtain ⟨f, fd, F, hm, hb⟩ := D
  obtain ⟨f_parts_of, fd_parts_of, G_parts_of, m_parts_of, k_parts_of, b_parts_of⟩ := GP
  obtain ⟨f_read_entry, fd_read_entry, G_read_entry, m_read_entry, k_read_entry, b_read_entry⟩ := GE
  obtain ⟨f_all_read, fd_all_read, G_all_read, m_all_read, k_all_read, b_all_read⟩ := GA
  refine ⟨f, fd, F.okX sc_read_table (fun vs H Q E h => ?_) (fun cdv A outer s H vs Q E hr h => ?_), hm, F.kp, hb⟩
  · obtain ⟨l, rfl, _⟩ := h
    rfl
  · obtain ⟨l, rfl, hl, hp, hpn, q1, q2⟩ := h
    refine ⟨_, (pss_one (ps_ret (pe_call G_all_read (hr.mono (by omega)) rfl m_all_read k_all_read b_all_read .nil (passes_call (takes_of rfl rfl rfl rfl) (fun _ _ _ _ h => h)) (pa_cons (pe_lc (own := [("part", 1)]) rfl sc_read_table.nd (pi_list (pe_call G_parts_of (hr.mono (by omega)) rfl m_parts_of k_parts_of b_parts_of .nil pass0 (pa_cons (pv 0) pa_nil))) (blkOk_by (N := ["text", "part"]) (sc := defScope s_read_table) (by decide +kernel)) (fun _ _ _ _ _ => (pg_name (i := 1) sc_read_table.nd rfl (Or.inl rfl))) (fun _ _ _ _ _ => pts_nil) (fun _ _ _ _ _ => (pe_call G_read_entry (hr.mono (by omega)) rfl m_read_entry k_read_entry b_read_entry .nil pass0 (pa_cons (pv 1) pa_nil)))) pa_nil)))), ?_⟩
    refine ⟨_, rfl, l, rfl, hl, fun p H1 s1 np h1 => ?_⟩
    refine ⟨p, rfl, ⟨_, SqL.of h1⟩, fun D hD => ?_⟩
    refine lc_list (K := K) (a := p) (xs := sxs (partsL l)) (fun i H' => Same H1 H' ∧ ∃ rs : List V, rs.length = i ∧ H' D = some (.lst rs) ∧ DpAll K (hide D H') rs ((((partsL l).take i).map readE).map oD)) ⟨same_new hD _, [], rfl, upd_same, .nil⟩ (fun i H' _ h => SqL.of (h.1 _ _ h1)) ?_ ?_
    · rintro i x H2 hx ⟨s2, rs, lr, hrs, hall⟩
      rw [List.getElem?_map, List.getElem?_map] at hx
      obtain ⟨y, hy, rfl⟩ : ∃ y, (partsL l)[i]? = some y ∧ tx y = x := by
        cases z : (partsL l)[i]? with
        | none => rw [z] at hx; cases hx
        | some y => rw [z] at hx; exact ⟨y, rfl, Option.some.inj hx⟩
      have hlt := get_lt hy
      refine ⟨rfl, _, rfl, y, rfl, (hp y (List.mem_of_getElem? hy)).1, (hp y (List.mem_of_getElem? hy)).2, fun r H3 s3 hr3 => ?_⟩
      have hrs3 := s3 _ _ hrs
      refine ⟨rs, hrs3, small1000 (by omega), same_upd (s2.trans s3) hD, rs ++ [r], by rw [List.length_append, lr]; rfl, upd_same, ?_⟩
      rw [take_more hy, List.map_append, List.map_append, hide_upd]
      exact dps_snoc (dps_same (hide_mono s3) _ _ hall) (dp_hide hrs3 _ _ (noL_E y) hr3)
    · rintro H2 ⟨s2, rs, lr, hrs, hall⟩
      rw [show (sxs (partsL l)).length = (partsL l).length by rw [List.length_map, List.length_map], List.take_length] at hall
      have s12 := s1.trans s2
      refine ⟨D, rs, (partsL l).map readE, rfl, SqL.of hrs, dps_same (hide_sub D H2) _ _ hall, shp_E _, fun d hd => ?_, fun h r H3 s3 hr3 => q1 h r H3 (s12.trans s3) hr3, fun h dx H3 s3 hr3 => q2 h dx H3 (s12.trans s3) hr3⟩
      obtain ⟨y, _, rfl⟩ := List.mem_map.mp hd
      exact tu_E y
end

section
variable {P : Program} {w : World} {K : PySem.W.Frag} {mg : Str → Option Value} {base : Heap}
theorem ok_read_limits {C : Addr} (GP : Kn P w K mg base CX0 "parts_of" 1 ["text"] spParts) (GE : Kn P w K mg base CX0 "read_limit" 6 ["part"] (spReadOf K readM)) (GA : Kn P w K mg base (L2.CX P w) "all_read" 3 ["found"] (spAll K C))
    (D : Df K mg "read_limits" s_read_limits ["text"]) : Kn P w K mg base (L2.CX P w) "read_limits" 7 ["text"] (spReadAll K C readM) := by
  obtain ⟨f, fd, F, hm, hb⟩ := D
  obtain ⟨f_parts_of, fd_parts_of, G_parts_of, m_parts_of, k_parts_of, b_parts_of⟩ := GP
  obtain ⟨f_read_limit, fd_read_limit, G_read_limit, m_read_limit, k_read_limit, b_read_limit⟩ := GE
  obtain ⟨f_all_read, fd_all_read, G_all_read, m_all_read, k_all_read, b_all_read⟩ := GA
  refine ⟨f, fd, F.okX sc_read_limits (fun vs H Q E h => ?_) (fun cdv A outer s H vs Q E hr h => ?_), hm, F.kp, hb⟩
  · obtain ⟨l, rfl, _⟩ := h
    rfl
  · obtain ⟨l, rfl, hl, hp, hpn, q1, q2⟩ := h
    refine ⟨_, (pss_one (ps_ret (pe_call G_all_read (hr.mono (by omega)) rfl m_all_read k_all_read b_all_read .nil (passes_call (takes_of rfl rfl rfl rfl) (fun _ _ _ _ h => h)) (pa_cons (pe_lc (own := [("part", 1)]) rfl sc_read_limits.nd (pi_list (pe_call G_parts_of (hr.mono (by omega)) rfl m_parts_of k_parts_of b_parts_of .nil pass0 (pa_cons (pv 0) pa_nil))) (blkOk_by (N := ["text", "part"]) (sc := defScope s_read_limits) (by decide +kernel)) (fun _ _ _ _ _ => (pg_name (i := 1) sc_read_limits.nd rfl (Or.inl rfl))) (fun _ _ _ _ _ => pts_nil) (fun _ _ _ _ _ => (pe_call G_read_limit (hr.mono (by omega)) rfl m_read_limit k_read_limit b_read_limit .nil pass0 (pa_cons (pv 1) pa_nil)))) pa_nil)))), ?_⟩
    refine ⟨_, rfl, l, rfl, hl, fun p H1 s1 np h1 => ?_⟩
    refine ⟨p, rfl, ⟨_, SqL.of h1⟩, fun D hD => ?_⟩
    refine lc_list (K := K) (a := p) (xs := sxs (partsL l)) (fun i H' => Same H1 H' ∧ ∃ rs : List V, rs.length = i ∧ H' D = some (.lst rs) ∧ DpAll K (hide D H') rs ((((partsL l).take i).map readM).map oD)) ⟨same_new hD _, [], rfl, upd_same, .nil⟩ (fun i H' _ h => SqL.of (h.1 _ _ h1)) ?_ ?_
    · rintro i x H2 hx ⟨s2, rs, lr, hrs, hall⟩
      rw [List.getElem?_map, List.getElem?_map] at hx
      obtain ⟨y, hy, rfl⟩ : ∃ y, (partsL l)[i]? = some y ∧ tx y = x := by
        cases z : (partsL l)[i]? with
        | none => rw [z] at hx; cases hx
        | some y => rw [z] at hx; exact ⟨y, rfl, Option.some.inj hx⟩
      have hlt := get_lt hy
      refine ⟨rfl, _, rfl, y, rfl, (hp y (List.mem_of_getElem? hy)).1, (hp y (List.mem_of_getElem? hy)).2, fun r H3 s3 hr3 => ?_⟩
      have hrs3 := s3 _ _ hrs
      refine ⟨rs, hrs3, small1000 (by omega), same_upd (s2.trans s3) hD, rs ++ [r], by rw [List.length_append, lr]; rfl, upd_same, ?_⟩
      rw [take_more hy, List.map_append, List.map_append, hide_upd]
      exact dps_snoc (dps_same (hide_mono s3) _ _ hall) (dp_hide hrs3 _ _ (noL_M y) hr3)
    · rintro H2 ⟨s2, rs, lr, hrs, hall⟩
      rw [show (sxs (partsL l)).length = (partsL l).length by rw [List.length_map, List.length_map], List.take_length] at hall
      have s12 := s1.trans s2
      refine ⟨D, rs, (partsL l).map readM, rfl, SqL.of hrs, dps_same (hide_sub D H2) _ _ hall, shp_M _, fun d hd => ?_, fun h r H3 s3 hr3 => q1 h r H3 (s12.trans s3) hr3, fun h dx H3 s3 hr3 => q2 h dx H3 (s12.trans s3) hr3⟩
      obtain ⟨y, _, rfl⟩ := List.mem_map.mp hd
      exact tu_M y
end

def bndD : Option (OZ × OZ) → PyData | none => .none | some b => .tuple [zD b.1, zD b.2]
def spBounds (K : PySem.W.Frag) : Sp := fun vs H Q _ => ∃ (a : Addr) (ws : List (List Nat)), vs = [.ref a] ∧ SqL K H a (sxs ws) ∧ (∀ p ∈ ws, p.length ≤ 100 ∧ Asc p) ∧ ws.length ≤ 200 ∧ ∀ r H', Same H H' → Dp K H' r (bndD (readB ws)) → Q r H'
theorem altL_mem {α : Type} (x : α) : ∀ l : List α, x ∈ altL l → x ∈ l
  | [], h => h
  | [_], h => h
  | a :: b :: r, h => by
    rcases List.mem_cons.mp h with e | e
    · rw [e]
      exact List.mem_cons_self ..
    · exact List.mem_cons_of_mem _ (List.mem_cons_of_mem _ (altL_mem x r e))
theorem dps_strs {K : PySem.W.Frag} (H : Hp) : ∀ xs : List Str, DpAll K H (xs.map V.str) (xs.map PyData.str)
  | [] => .nil
  | x :: xs => .cons (.str x) (dps_strs H xs)
theorem twoL {α : Type} {l : List α} (h : l.length = 2) : ∃ a b, l = [a, b] := by
  match l, h with
  | [a, b], _ => exact ⟨a, b, rfl⟩
theorem limOf_no {n : List Nat} {ws : List (List Nat)} (h : readB ws = none ∨ ¬ nameL n = true) : limOf n ws = none := by
  unfold limOf
  rcases h with h | h
  · rw [h]
  · cases readB ws with
    | none => rfl
    | some b => exact if_neg h
theorem limOf_yes {n : List Nat} {ws : List (List Nat)} {b : OZ × OZ} (h : readB ws = some b) (k : nameL n = true) : limOf n ws = some (limD n b) := by
  unfold limOf
  rw [h]
  exact if_pos k
theorem strs_eq {M N : List (List Nat)} {ss : List Str} (h : ss = N.map SX.S) : PyData.eqv (strD (M.map SX.S)) (strD ss) = decide (M = N) := by
  rw [eqv_strs, h, Bool.eq_iff_iff, decide_eq_true_eq, decide_eq_true_eq]
  constructor
  · intro e
    have key : ∀ A B : List (List Nat), A.map SX.S = B.map SX.S → A = B := by
      intro A
      induction A with
      | nil => intro B e; cases B with
        | nil => rfl
        | cons _ _ => cases e
      | cons a A ih => intro B e; cases B with
        | nil => cases e
        | cons b B =>
          rw [List.map_cons, List.map_cons] at e
          rw [SX.S_inj (List.cons.inj e).1, ih B (List.cons.inj e).2]
    exact key _ _ e
  · exact fun e => by rw [e]
section
variable {P : Program} {w : World} {K : PySem.W.Frag} {mg : Str → Option Value} {base : Heap}
theorem ok_read_bounds (T : Bt mg) (GR : Kn P w K mg base CX0 "read_number" 4 ["text"] (spReadNum K)) (D : Df K mg "read_bounds" s_read_bounds ["words"]) : Kn P w K mg base CX0 "read_bounds" 5 ["words"] (spBounds K) := by
  obtain ⟨f, fd, F, hm, hb⟩ := D
  obtain ⟨f_read_number, fd_read_number, G_read_number, m_read_number, k_read_number, b_read_number⟩ := GR
  refine ⟨f, fd, F.ok sc_read_bounds (fun vs H Q E h => ?_) (fun cdv A outer s H vs Q E hr h => ?_), hm, F.kp, hb⟩
  · obtain ⟨a, ws, rfl, _⟩ := h
    rfl
  · obtain ⟨a, ws, rfl, ha, hw, hn, q⟩ := h
    refine ⟨_, (pss_cons (ps_set (i := 1) sc_read_bounds.nd rfl (Or.inl rfl) (pe_alt0 (pv 0)))
      (pss_cons (ps_setLc (i := 2) (own := [("word", 3)]) rfl sc_read_bounds.nd rfl rfl (sw_true rfl rfl rfl (by decide +kernel)) (pi_list (pe_alt1 (pv 0))) (blkOk_by (N := ["words", "marks", "numbers", "word"]) (sc := defScope s_read_bounds) (by decide +kernel)) (fun _ _ _ _ _ => (pg_name (i := 3) sc_read_bounds.nd rfl (Or.inl rfl))) (fun _ _ _ _ _ => pts_nil) (fun _ _ _ _ _ => (pe_call G_read_number (hr.mono (by omega)) rfl m_read_number k_read_number b_read_number .nil pass0 (pa_cons (pv 3) pa_nil))))
      (pss_cons (ps_if (PW.pt (pw_or (pt_cmpR op_ne (pe_callB (call_lenK (K := K) rfl) (by rfl) T.n_len (by decide +kernel) (pa_cons (pv 2) pa_nil)) (pe_callB (call_lenK (K := K) rfl) (by rfl) T.n_len (by decide +kernel) (pa_cons (pv 1) pa_nil)) (nomark _)) (pw_or1 (pt_cmpR (op_inD (u65 hr)) pe_non (pv 2) (by rfl))))) (pss_one (ps_ret pe_non)) pss_nil)
      (pss_cons (ps_if (pt_cmpR (op_eqD hr.units) (pv 1) (pe_lst pa_nil) (nomark _)) (pss_one (ps_ret (pe_tup (pa_cons pe_non (pa_cons pe_non pa_nil))))) pss_nil)
      (pss_cons (ps_if (pt_cmpR (op_eqD hr.units) (pv 1) (pe_lst (pa_cons pe_str pa_nil)) (nomark _)) (pss_one (ps_ret (pe_tup (pa_cons (pe_ix ix_list (pv 2) pe_int (fun _ _ => rfl)) (pa_cons pe_non pa_nil))))) pss_nil)
      (pss_cons (ps_if (pt_cmpR (op_eqD hr.units) (pv 1) (pe_lst (pa_cons pe_str pa_nil)) (nomark _)) (pss_one (ps_ret (pe_tup (pa_cons pe_non (pa_cons (pe_ix ix_list (pv 2) pe_int (fun _ _ => rfl)) pa_nil))))) pss_nil)
      (pss_cons (ps_if (pt_cmpR (op_eqD hr.units) (pv 1) (pe_lst (pa_cons pe_str (pa_cons pe_str pa_nil))) (nomark _)) (pss_one (ps_ret (pe_tup (pa_cons (pe_ix ix_list (pv 2) pe_int (fun _ _ => rfl)) (pa_cons (pe_ix ix_list (pv 2) pe_int (fun _ _ => rfl)) pa_nil))))) pss_nil)
      (pss_one (ps_ret pe_non))))))))), ?_⟩
    refine ⟨_, rfl, a, _, rfl, ha, fun pm npm => ?_⟩
    rw [show altL ((sxs ws).drop 0) = sxs (altL ws) by rw [List.drop_zero, altL_map, altL_map]]
    have sm := same_new npm (.lst (sxs (altL ws)))
    refine ⟨_, rfl, a, _, rfl, sm.seq ha, fun pw npw => ?_⟩
    rw [show altL ((sxs ws).drop 1) = sxs (altL (ws.drop 1)) by rw [← List.map_drop, ← List.map_drop, altL_map, altL_map]]
    generalize hW : altL (ws.drop 1) = W
    have hW1 : ∀ p ∈ W, p.length ≤ 100 := fun p hp => by
      rw [← hW] at hp
      exact (hw p (List.mem_of_mem_drop (altL_mem _ _ hp))).1
    have hW2 : W.length ≤ 200 := by
      rw [← hW]
      exact Nat.le_trans (altL_len _) (by rw [List.length_drop]; omega)
    have sw := sm.trans (same_new npw (.lst (sxs W)))
    refine ⟨pw, rfl, ⟨_, SqL.of upd_same⟩, fun D hD => ?_⟩
    refine lc_list (K := K) (a := pw) (xs := sxs W) (fun i H' => Same (upd (upd H pm (.lst (sxs (altL ws)))) pw (.lst (sxs W))) H' ∧ ∃ rs : List V, rs.length = i ∧ H' D = some (.lst rs) ∧ DpAll K (hide D H') rs (((W.take i).map readL).map zD)) ⟨same_new hD _, [], rfl, upd_same, .nil⟩ (fun i H' _ h => SqL.of (h.1 _ _ upd_same)) ?_ ?_
    · rintro i x H2 hx ⟨s2, rs, lr, hrs, hall⟩
      rw [List.getElem?_map, List.getElem?_map] at hx
      obtain ⟨y, hy, rfl⟩ : ∃ y, W[i]? = some y ∧ tx y = x := by
        cases z : W[i]? with
        | none => rw [z] at hx; cases hx
        | some y => rw [z] at hx; exact ⟨y, rfl, Option.some.inj hx⟩
      have hlt := get_lt hy
      have hy1 := hW1 y (List.mem_of_getElem? hy)
      refine ⟨rfl, _, rfl, y, rfl, by omega, fun r H3 s3 hr3 => ?_⟩
      have hrs3 := s3 _ _ hrs
      refine ⟨rs, hrs3, small1000 (by omega), same_upd (s2.trans s3) hD, rs ++ [r], by rw [List.length_append, lr]; rfl, upd_same, ?_⟩
      rw [take_more hy, List.map_append, List.map_append, hide_upd]
      exact dps_snoc (dps_same (hide_mono s3) _ _ hall) (dp_hide hrs3 _ _ (noL_z _) hr3)
    rintro H2 ⟨s2, rs, lr, hrs, hall⟩
    rw [show (sxs W).length = W.length by rw [List.length_map, List.length_map]] at lr hall
    rw [List.take_length] at hall
    have hall2 := dps_same (hide_sub D H2) _ _ hall
    have hdl : Dp K H2 (.ref D) (.list ((W.map readL).map zD)) := .lst (SqL.of hrs) hall2
    have hm2 := s2 _ _ (same_new npw (.lst (sxs W)) _ _ upd_same)
    have s02 := sw.trans s2
    have eR : readB ws = boundsB (altL ws) (W.map readL) := by
      unfold readB
      rw [hW]
    rw [eR] at q
    have hM : ∀ p ∈ altL ws, Asc p := fun p hp => (hw p (altL_mem _ _ hp)).2
    generalize altL ws = M at *
    have hdm : Dp K H2 (.ref pm) (strD (M.map SX.S)) := .lst (SqL.of hm2) (dps_strs _ _)
    have hsm : SeqAt.shaped (strD (M.map SX.S)) = true := (fine.lst (n := 0) fun d hd => by
      obtain ⟨o, ho, rfl⟩ := List.mem_map.mp hd
      obtain ⟨l, hl, rfl⟩ := List.mem_map.mp ho
      exact fine_str (strS (hM l hl))).shp (by decide)
    have hsn : SeqAt.shaped (.list ((W.map readL).map zD)) = true := (fine.lst (n := 1) fun d hd => by
      obtain ⟨o, ho, rfl⟩ := List.mem_map.mp hd
      exact fine_z o).shp (by decide)
    have fin : ∀ b, boundsB M (W.map readL) = b → ∀ r H', Same H2 H' → Dp K H' r (bndD b) → Q r H' := fun b e r H' s' hd => q r H' (s02.trans s') (by rw [e]; exact hd)
    refine ⟨_, rfl, D, rs, rfl, .inl (SqL.of hrs), _, rfl, pm, _, rfl, .inl (SqL.of hm2), rfl, _, rfl, ?_⟩
    refine ite2 (fun c1 => ?_) (fun c1 => ?_)
    · refine fin none ?_ _ H2 (Same.refl _) .non
      have hne : (W.map readL).length ≠ M.length := fun e => by
        rw [lr, List.length_map, List.length_map] at c1
        rw [List.length_map] at e
        rw [e, decide_eq_true rfl] at c1
        cases c1
      exact if_pos (.inl hne)
    · have hWM : W.length = M.length := by
        cases z : decide (V.int ((rs.length : Nat) : Int) = V.int (((sxs M).length : Nat) : Int)) with
        | false =>
          rw [z] at c1
          exact absurd rfl c1
        | true =>
          have z1 := of_decide_eq_true z
          injection z1 with z1
          rw [lr, List.length_map, List.length_map] at z1
          omega
      refine ⟨_, rfl, .none, _, .non, hdl, rfl, hsn, _, rfl, ?_⟩
      have eany : (((W.map readL).map zD).any fun z => PyData.eqv z .none) = decide (none ∈ W.map readL) := by
        rw [List.any_map, Bool.eq_iff_iff, List.any_eq_true, decide_eq_true_eq]
        constructor
        · rintro ⟨o, ho, h⟩
          cases o with
          | none => exact ho
          | some z => exact nomatch (show false = true from h)
        · exact fun h => ⟨none, h, rfl⟩
      refine ite2 (fun c2 => ?_) (fun c2 => ?_)
      · have c3 := of_decide_eq_true (eany.symm.trans c2)
        refine fin none ?_ _ H2 (Same.refl _) .non
        unfold boundsB
        rw [if_pos (.inr c3)]
      · have c3 := of_decide_eq_false (eany.symm.trans (Bool.eq_false_iff.mpr c2))
        have eB : boundsB M (W.map readL) = _ := if_neg (by
          rintro (h | h)
          · exact h (by rw [List.length_map]; exact hWM)
          · exact c3 h)
        refine ⟨_, rfl, (by show 0 ≤ sizeLine; decide), fun p1 np1 => ?_⟩
        have t1 := same_new np1 (.lst [])
        refine ⟨strD (M.map SX.S), strD [], dp_same t1 _ _ hdm, .lst (SqL.of upd_same) .nil, hsm, rfl, _, rfl, ?_⟩
        refine ite2 (fun c4 => ?_) (fun c4 => ?_)
        · have m0 : M = [] := List.map_eq_nil_iff.mp (of_decide_eq_true ((eqv_strs _ _).symm.trans c4))
          refine ⟨(by show 2 ≤ sizeLine; decide), fun p2 np2 => ?_⟩
          refine fin (some (none, none)) ?_ _ _ (t1.trans (same_new np2 _)) (.tup (SqT.of upd_same) (.cons .non (.cons .non .nil)))
          rw [eB, if_pos m0]
        have m0 : ¬ M = [] := fun e => c4 ((eqv_strs _ _).trans (decide_eq_true (by rw [e]; rfl)))
        rw [if_neg m0] at eB
        refine ⟨_, rfl, (by show 1 ≤ sizeLine; decide), fun p3 np3 => ?_⟩
        have t3 := t1.trans (same_new np3 (.lst [V.str "from"]))
        refine ⟨strD (M.map SX.S), strD [Str.ofString "from"], dp_same t3 _ _ hdm, .lst (SqL.of upd_same) (.cons (.str _) (.nil)), hsm, (by decide +kernel), _, rfl, ?_⟩
        have e3 := strs_eq (M := M) (N := [fromL]) (ss := [Str.ofString "from"]) (by decide +kernel)
        refine ite2 (fun c5 => ?_) (fun c5 => ?_)
        · have m1 := of_decide_eq_true (e3.symm.trans c5)
          obtain ⟨v, rfl⟩ : ∃ v, W = [v] := List.length_eq_one_iff.mp (by rw [hWM, m1]; rfl)
          obtain ⟨r, rfl⟩ : ∃ r, rs = [r] := List.length_eq_one_iff.mp lr
          cases hall2 with
          | cons hr0 _ =>
            refine ⟨_, rfl, D, _, _, r, rfl, rfl, SqL.of (t3 _ _ hrs), at_of (j := 0) rfl rfl, (by show 2 ≤ sizeLine; decide), fun p4 np4 => ?_⟩
            have t4 := t3.trans (same_new np4 (.tup [r, .non]))
            refine fin (some (readL v, none)) ?_ _ _ t4 (.tup (SqT.of upd_same) (.cons (dp_same t4 _ _ hr0) (.cons .non .nil)))
            rw [eB, if_pos m1]
            rfl
        have m1 : ¬ M = [fromL] := fun e => c5 (e3.trans (decide_eq_true e))
        rw [if_neg m1] at eB
        refine ⟨_, rfl, (by show 1 ≤ sizeLine; decide), fun p4 np4 => ?_⟩
        have t4 := t3.trans (same_new np4 (.lst [V.str "to"]))
        refine ⟨strD (M.map SX.S), strD [Str.ofString "to"], dp_same t4 _ _ hdm, .lst (SqL.of upd_same) (.cons (.str _) (.nil)), hsm, (by decide +kernel), _, rfl, ?_⟩
        have e4 := strs_eq (M := M) (N := [toL]) (ss := [Str.ofString "to"]) (by decide +kernel)
        refine ite2 (fun c6 => ?_) (fun c6 => ?_)
        · have m2 := of_decide_eq_true (e4.symm.trans c6)
          obtain ⟨v, rfl⟩ : ∃ v, W = [v] := List.length_eq_one_iff.mp (by rw [hWM, m2]; rfl)
          obtain ⟨r, rfl⟩ : ∃ r, rs = [r] := List.length_eq_one_iff.mp lr
          cases hall2 with
          | cons hr0 _ =>
            refine ⟨_, rfl, D, _, _, r, rfl, rfl, SqL.of (t4 _ _ hrs), at_of (j := 0) rfl rfl, (by show 2 ≤ sizeLine; decide), fun p6 np6 => ?_⟩
            have t6 := t4.trans (same_new np6 (.tup [.non, r]))
            refine fin (some (none, readL v)) ?_ _ _ t6 (.tup (SqT.of upd_same) (.cons .non (.cons (dp_same t6 _ _ hr0) .nil)))
            rw [eB, if_pos m2]
            rfl
        have m2 : ¬ M = [toL] := fun e => c6 (e4.trans (decide_eq_true e))
        rw [if_neg m2] at eB
        refine ⟨_, rfl, (by show 2 ≤ sizeLine; decide), fun p5 np5 => ?_⟩
        have t5 := t4.trans (same_new np5 (.lst [V.str "from", V.str "to"]))
        refine ⟨strD (M.map SX.S), strD [Str.ofString "from", Str.ofString "to"], dp_same t5 _ _ hdm, .lst (SqL.of upd_same) (.cons (.str _) (.cons (.str _) (.nil))), hsm, (by decide +kernel), _, rfl, ?_⟩
        have e5 := strs_eq (M := M) (N := [fromL, toL]) (ss := [Str.ofString "from", Str.ofString "to"]) (by decide +kernel)
        refine ite2 (fun c7 => ?_) (fun c7 => ?_)
        · have m3 := of_decide_eq_true (e5.symm.trans c7)
          obtain ⟨v, u, rfl⟩ : ∃ v u, W = [v, u] := twoL (by rw [hWM, m3]; rfl)
          obtain ⟨r, t, rfl⟩ : ∃ r t, rs = [r, t] := twoL lr
          cases hall2 with
          | cons hr0 hr1 =>
            cases hr1 with
            | cons hr1 _ =>
              refine ⟨_, rfl, D, _, _, r, rfl, rfl, SqL.of (t5 _ _ hrs), at_of (j := 0) rfl rfl, _, rfl, D, _, _, t, rfl, rfl, SqL.of (t5 _ _ hrs), at_of (j := 1) rfl rfl, (by show 2 ≤ sizeLine; decide), fun p7 np7 => ?_⟩
              have t7 := t5.trans (same_new np7 (.tup [r, t]))
              refine fin (some (readL v, readL u)) ?_ _ _ t7 (.tup (SqT.of upd_same) (.cons (dp_same t7 _ _ hr0) (.cons (dp_same t7 _ _ hr1) .nil)))
              rw [eB, if_pos m3]
              rfl
        have m3 : ¬ M = [fromL, toL] := fun e => c7 (e5.trans (decide_eq_true e))
        rw [if_neg m3] at eB
        exact fin none eB _ _ t5 .non
theorem ok_read_limit (GB : Kn P w K mg base CX0 "read_bounds" 5 ["words"] (spBounds K)) (GN : Kn P w K mg base CX0 "is_name" 1 ["value"] (spDS K nameD)) (D : Df K mg "read_limit" s_read_limit ["part"]) : Kn P w K mg base CX0 "read_limit" 6 ["part"] (spReadOf K readM) := by
  obtain ⟨f, fd, F, hm, hb⟩ := D
  obtain ⟨f_read_bounds, fd_read_bounds, G_read_bounds, m_read_bounds, k_read_bounds, b_read_bounds⟩ := GB
  obtain ⟨f_is_name, fd_is_name, G_is_name, m_is_name, k_is_name, b_is_name⟩ := GN
  refine ⟨f, fd, F.ok sc_read_limit (fun vs H Q E h => ?_) (fun cdv A outer s H vs Q E hr h => ?_), hm, F.kp, hb⟩
  · obtain ⟨l, rfl, _⟩ := h
    rfl
  · obtain ⟨l, rfl, hl, hasc, q⟩ := h
    refine ⟨_, (pss_cons (ps_asg (pe_bm PySem.F.plainAttrs_str PySem.F.slot_str_split PySem.F.type_str_split mt_split (pv 0) (pa_cons pe_str pa_nil)) (pg_hdtl (by rfl) (pgs_cons (pg_name (i := 1) sc_read_limit.nd rfl (Or.inl rfl)) (pgs_cons (pg_name (i := 2) sc_read_limit.nd rfl (Or.inl rfl)) pgs_nil))))
      (pss_cons (ps_set (i := 3) sc_read_limit.nd rfl (Or.inl rfl) (pe_call G_read_bounds (hr.mono (by omega)) rfl m_read_bounds k_read_bounds b_read_bounds .nil pass0 (pa_cons (pv 2) pa_nil)))
      (pss_cons (ps_if (PW.pt (pw_or (pt_not (pt_val (pe_call G_is_name (hr.mono (by omega)) rfl m_is_name k_is_name b_is_name .nil pass0 (pa_cons (pv 1) pa_nil)))) (pw_or1 (pt_cmpR op_isN (pv 3) pe_non (nomark _))))) (pss_one (ps_ret pe_non)) pss_nil)
      (pss_cons (ps_asg (pv 3) (pg_tup (by rfl) (pgs_cons (pg_name (i := 4) sc_read_limit.nd rfl (Or.inl rfl)) (pgs_cons (pg_name (i := 5) sc_read_limit.nd rfl (Or.inl rfl)) pgs_nil))))
      (pss_one (ps_ret (pe_tup (pa_cons (pv 1) (pa_cons (pv 4) (pa_cons (pv 5) pa_nil)))))))))), ?_⟩
    have sep : Str.ofString " " = SX.S [32] := by decide +kernel
    refine ⟨_, rfl, rfl, _, _, rfl, rfl, (by decide +kernel), (by rw [SX.S_len]; exact fitN (by omega)), fun pl npl => ?_⟩
    rw [sep, SX.split_S (List.cons_ne_nil _ _) (by decide)]
    have hlen := spl_len [32] l 0 []
    have hsub := spl_asc [32] l 0 [] hasc Asc.nil
    have eM : readM l = match TL.spl [32] 0 [] l with | [] => none | n :: ws => limOf n ws := rfl
    cases hsp : TL.spl [32] 0 [] l with
    | nil => exact absurd hsp (spl_ne _ _ _ _)
    | cons n ws =>
      rw [hsp] at hlen hsub eM
      have eM2 : readM l = limOf n ws := eM
      rw [eM2] at q
      have lws : ws.length ≤ 100 := by
        have := hlen.1
        rw [List.length_cons] at this
        omega
      have lw : ∀ p ∈ n :: ws, p.length ≤ 100 := fun p hp => by
        have := hlen.2 p hp
        rw [List.length_nil] at this
        omega
      have s0 := same_new npl (.lst (sxs (n :: ws)))
      refine ⟨pl, tx n, sxs ws, rfl, SqL.of upd_same, (by rw [List.length_map, List.length_map]; omega), fun d hd => ?_⟩
      have s1 := s0.trans (same_new hd (.lst (sxs ws)))
      refine ⟨_, _, rfl, _, _, rfl, rfl, ?_⟩
      refine ⟨_, rfl, d, ws, rfl, SqL.of upd_same, fun p hp => ⟨lw p (List.mem_cons_of_mem _ hp), hsub p (List.mem_cons_of_mem _ hp)⟩, by omega, fun r H2 s2 hr2 => ?_⟩
      have hshort : shortD (.str (SX.S n)) = true := decide_eq_true (by rw [SX.S_len]; exact lw n (List.mem_cons_self ..))
      refine ⟨_, rfl, _, .str (SX.S n), rfl, .str _, hshort, fun H3 s3 => ?_⟩
      have s123 := s1.trans (s2.trans s3)
      have hr3 := dp_same s3 _ _ hr2
      rw [nameD_S]
      refine ⟨_, rfl, ?_⟩
      refine ite2 (fun c1 => ?_) (fun c1 => ?_)
      · have hn : ¬ nameL n = true := fun z => by
          rw [z] at c1
          cases c1
        exact q _ H3 s123 (by rw [limOf_no (.inr hn)]; exact .non)
      · have hn : nameL n = true := by
          cases z : nameL n with
          | true => rfl
          | false => exact absurd (by rw [z]; rfl) c1
        refine ⟨_, rfl, rfl, _, rfl, ?_⟩
        cases hz : readB ws with
        | none =>
          rw [hz] at hr3
          cases hr3
          exact q _ H3 s123 (by rw [limOf_no (.inl hz)]; exact .non)
        | some b =>
          rw [hz] at hr3
          cases (show Dp K H3 r (.tuple [zD b.1, zD b.2]) from hr3) with
          | @tup pb xs_ _ hsq hal =>
            cases hal with
            | @cons v1 _ _ _ hv1 hal =>
              cases hal with
              | @cons v2 _ _ _ hv2 hal =>
                cases hal
                refine ite2 (fun c2 => ?_) (fun c2 => ?_)
                · exact nomatch (of_decide_eq_true c2)
                · refine ⟨_, rfl, pb, _, rfl, hsq, rfl, _, _, rfl, _, _, rfl, rfl, ?_⟩
                  refine ⟨_, rfl, _, rfl, _, rfl, (by show 3 ≤ sizeLine; decide), fun p5 np5 => ?_⟩
                  have s5 := same_new np5 (.tup [tx n, v1, v2])
                  refine q _ _ (s123.trans s5) ?_
                  rw [limOf_yes hz hn]
                  exact .tup (SqT.of upd_same) (.cons (.str _) (.cons (dp_same s5 _ _ hv1) (.cons (dp_same s5 _ _ hv2) .nil)))
end

def lowT (o : OZ) : List Nat := match o with | none => [] | some z => [32, 102, 114, 111, 109, 32] ++ ratL z
def highT (o : OZ) : List Nat := match o with | none => [] | some z => [32, 116, 111, 32] ++ ratL z
theorem limL_eq (x : List Nat) (lo hi : OZ) : limL x lo hi = (x ++ lowT lo) ++ highT hi := by
  unfold limL lowT highT
  cases lo <;> cases hi <;> simp [lowW, highW, TL.joinL]
def Few (z : Int × Int) : Prop := Red z ∧ Sz 40 z
def FewO : OZ → Prop | none => True | some z => Few z
theorem FewO.red : ∀ {o : OZ}, FewO o → RedO o
  | none, _ => trivial
  | some _, h => h.1
theorem Few.nat {z : Int × Int} (h : Few z) : z.1.natAbs < 10 ^ 13 ∧ z.2.natAbs < 10 ^ 13 := ⟨Nat.lt_trans h.2.1 (by decide), Nat.lt_trans h.2.2 (by decide)⟩
theorem Few.big {z : Int × Int} (h : Few z) : z.1.natAbs < 10 ^ 5000 ∧ z.2.natAbs < 10 ^ 5000 := ⟨Nat.lt_trans h.2.1 (by decide +kernel), Nat.lt_trans h.2.2 (by decide +kernel)⟩
theorem Few.len {z : Int × Int} (h : Few z) : (ratL z).length ≤ 30 := by
  have h1 := intL_le (k := 13) (by decide) h.nat.1
  have h2 := intL_le (k := 13) (by decide) h.nat.2
  unfold ratL
  split
  · omega
  · rw [List.length_append, List.length_cons]
    omega
def spLimText (K : PySem.W.Frag) : Sp := fun vs H Q _ => ∃ (v : V) (x : List Nat) (lo hi : OZ), vs = [v] ∧ Dp K H v (limD x (lo, hi)) ∧ x.length ≤ 20 ∧ FewO lo ∧ FewO hi ∧ ∀ H', Same H H' → Q (tx (limL x lo hi)) H'
section
variable {P : Program} {w : World} {K : PySem.W.Frag} {mg : Str → Option Value} {base : Heap}
theorem ok_limit_text (GX : Kn P w K mg base CX0 "ratio_text" 4 ["number"] (spRatText K)) (D : Df K mg "limit_text" s_limit_text ["limit"]) : Kn P w K mg base CX0 "limit_text" 5 ["limit"] (spLimText K) := by
  obtain ⟨f, fd, F, hm, hb⟩ := D
  obtain ⟨f_ratio_text, fd_ratio_text, G_ratio_text, m_ratio_text, k_ratio_text, b_ratio_text⟩ := GX
  refine ⟨f, fd, F.ok sc_limit_text (fun vs H Q E h => ?_) (fun cdv A outer s H vs Q E hr h => ?_), hm, F.kp, hb⟩
  · obtain ⟨v, x, lo, hi, rfl, _⟩ := h
    rfl
  · obtain ⟨v, x, lo, hi, rfl, hv, hx, hlo, hhi, q⟩ := h
    refine ⟨_, (pss_cons (ps_asg (pv 0) (pg_tup (by rfl) (pgs_cons (pg_name (i := 1) sc_limit_text.nd rfl (Or.inl rfl)) (pgs_cons (pg_name (i := 2) sc_limit_text.nd rfl (Or.inl rfl)) (pgs_cons (pg_name (i := 3) sc_limit_text.nd rfl (Or.inl rfl)) pgs_nil)))))
      (pss_cons (ps_set (i := 4) sc_limit_text.nd rfl (Or.inl rfl) (pv 1))
      (C8.pss_cut (ps_if (pt_cmpR op_notN (pv 2) pe_non (nomark _)) (pss_one (ps_aug (i := 4) sc_limit_text.nd rfl (Or.inl rfl) (pe_op op_add_str pe_str (pe_call G_ratio_text (hr.mono (by omega)) rfl m_ratio_text k_ratio_text b_ratio_text .nil pass0 (pa_cons (pv 2) pa_nil))) iop_add_str)) pss_nil)
      (C8.pss_cut (ps_if (pt_cmpR op_notN (pv 3) pe_non (nomark _)) (pss_one (ps_aug (i := 4) sc_limit_text.nd rfl (Or.inl rfl) (pe_op op_add_str pe_str (pe_call G_ratio_text (hr.mono (by omega)) rfl m_ratio_text k_ratio_text b_ratio_text .nil pass0 (pa_cons (pv 3) pa_nil))) iop_add_str)) pss_nil)
      (pss_one (ps_ret (pv 4))))))), ?_⟩
    cases hv with
    | @tup pb xs_ _ hsq hal =>
      cases hal with
      | @cons v0 _ _ _ hv0 hal =>
        cases hal with
        | @cons v1 _ _ _ hv1 hal =>
          cases hal with
          | @cons v2 _ _ _ hv2 hal =>
            cases hal
            cases hv0
            refine ⟨_, rfl, pb, _, rfl, hsq, rfl, _, _, rfl, _, _, rfl, _, _, rfl, rfl, ?_⟩
            have froms : Str.ofString " from " = SX.S [32, 102, 114, 111, 109, 32] := by decide +kernel
            have tos : Str.ofString " to " = SX.S [32, 116, 111, 32] := by decide +kernel
            have lx : (SX.S x).length ≤ 20 := by rw [SX.S_len]; exact hx
            have ll : (lowT lo).length ≤ 36 := by
              cases lo with
              | none => exact Nat.zero_le _
              | some z =>
                have := Few.len hlo
                show ([32, 102, 114, 111, 109, 32] ++ ratL z).length ≤ 36
                rw [List.length_append]
                show 6 + _ ≤ 36
                omega
            refine ⟨_, rfl, ?_⟩
            refine ⟨fun σ H' => Same H H' ∧ σ = [some (.ref pb), some (tx x), some v1, some v2, some (tx (x ++ lowT lo))], ?_, ?_⟩
            · refine ⟨_, rfl, rfl, _, rfl, ?_⟩
              refine ite2 (fun c => ?_) (fun c => ?_)
              · cases lo with
                | none =>
                  cases hv1
                  exact absurd c (by decide)
                | some z =>
                  have := Few.len hlo
                  refine ⟨_, rfl, _, rfl, v1, z, rfl, ⟨_, hv1, numOf_rat hlo.1⟩, (Few.big hlo).1, (Few.big hlo).2, fun H1 s1 => ?_⟩
                  refine ⟨_, _, rfl, rfl, (by rw [froms, SX.S_len, SX.S_len]; exact fitN (by show 6 + _ ≤ 5000; omega)), ?_⟩
                  refine ⟨_, _, rfl, rfl, (by rw [froms, SX.S_cat, SX.S_len, SX.S_len, List.length_append]; exact fitN (by show _ + (6 + _) ≤ 5000; omega)), s1, ?_⟩
                  rw [froms, SX.S_cat, SX.S_cat]
                  rfl
              · cases lo with
                | none => exact ⟨Same.refl _, by rw [show lowT none = [] from rfl, List.append_nil]; rfl⟩
                | some z =>
                  cases (show Dp K H v1 (rat z.1 z.2) from hv1) with
                  | tup _ _ => exact absurd (by rfl) c
            rintro σ H1 ⟨s1, rfl⟩
            have hv2' := dp_same s1 _ _ hv2
            refine ⟨fun σ H' => Same H H' ∧ σ = [some (.ref pb), some (tx x), some v1, some v2, some (tx ((x ++ lowT lo) ++ highT hi))], ?_, ?_⟩
            · refine ⟨_, rfl, rfl, _, rfl, ?_⟩
              refine ite2 (fun c => ?_) (fun c => ?_)
              · cases hi with
                | none =>
                  cases hv2
                  exact absurd c (by decide)
                | some z =>
                  have := Few.len hhi
                  refine ⟨_, rfl, _, rfl, v2, z, rfl, ⟨_, hv2', numOf_rat hhi.1⟩, (Few.big hhi).1, (Few.big hhi).2, fun H2 s2 => ?_⟩
                  refine ⟨_, _, rfl, rfl, (by rw [tos, SX.S_len, SX.S_len]; exact fitN (by show 4 + _ ≤ 5000; omega)), ?_⟩
                  refine ⟨_, _, rfl, rfl, (by rw [tos, SX.S_cat, SX.S_len, SX.S_len, List.length_append, List.length_append]; exact fitN (by show _ + _ + (4 + _) ≤ 5000; omega)), s1.trans s2, ?_⟩
                  rw [tos, SX.S_cat, SX.S_cat]
                  rfl
              · cases hi with
                | none => exact ⟨s1, by rw [show highT none = [] from rfl, List.append_nil]⟩
                | some z =>
                  cases (show Dp K H v2 (rat z.1 z.2) from hv2) with
                  | tup _ _ => exact absurd (by rfl) c
            rintro σ H2 ⟨s2, rfl⟩
            refine ⟨_, rfl, ?_⟩
            have q0 := q H2 s2
            rw [limL_eq] at q0
            exact q0
end

/-! ### for x in a list or a tuple -/
section
open PySem.Spec PyProof.Rows
variable {X : Cx} {tg : Expr}
def iSeq (K : PySem.W.Frag) (tl : TE) : TI := fun σ H R => tl σ H fun x H1 => ∃ a, x = .ref a ∧ (((∃ xs, SqL K H1 a xs) ∧ R (Itl K a) H1) ∨ ((∃ xs, SqT K H1 a xs) ∧ R (Itt K a) H1))
theorem pi_seq {l : Expr} {tl : TE} (hl : PE X l tl) : PI X tg l (iSeq X.K tl) := by
  refine ⟨fun pins s σ H R I want => thn (hl.run pins s σ H _ I want) fun v s1 ⟨x, H1, I1, r1, q1⟩ => ?_⟩
  obtain ⟨a, e, q1⟩ := q1
  subst e
  cases r1
  rcases q1 with ⟨⟨xs, hq⟩, q⟩ | ⟨⟨xs, hq⟩, q⟩
  · obtain ⟨its, rv, p, hz⟩ := I1.list hq
    refine wpAny_pyIter_list p.isList (?_ : _)
    exact ⟨s1.heap.objs.size, [s1.heap.objs.size], _, _, H1, rfl, I1.kept (t' := s1.toks) (fun b o e => Heap.get?_push_of_some _ e), turn_list a _, ⟨_, Heap.get?_push_size _ rfl, rfl, rfl⟩, (fun b hb => by
      have it : b = s1.heap.objs.size := by simpa using hb
      subst it
      exact I1.fpOk (Nat.le_refl _) (I1.hok.fresh (Nat.le_refl _))), q⟩
  · obtain ⟨its, rv, p, hz⟩ := I1.tuple hq
    refine wpAny_pyIter_tuple (show s1.heap.IsTuple a its.toArray from p) (?_ : _)
    exact ⟨s1.heap.objs.size, [s1.heap.objs.size], _, _, H1, rfl, I1.kept (t' := s1.toks) (fun b o e => Heap.get?_push_of_some _ e), turn_tuple a _, ⟨_, Heap.get?_push_size _ rfl, rfl, rfl⟩, (fun b hb => by
      have it : b = s1.heap.objs.size := by simpa using hb
      subst it
      exact I1.fpOk (Nat.le_refl _) (I1.hok.fresh (Nat.le_refl _))), q⟩
end

structure Giv where
  x : List Nat
  d : PyData
  z : Int × Int
def Giv.D (e : Giv) : PyData := .tuple [.str (SX.S e.x), e.d]
def Giv.ok (e : Giv) : Prop := e.x.length ≤ 20 ∧ numOf e.d = some e.z ∧ Few e.z
structure Lim where
  x : List Nat
  lo : OZ
  hi : OZ
def Lim.D (e : Lim) : PyData := limD e.x (e.lo, e.hi)
def Lim.L (e : Lim) : List Nat := limL e.x e.lo e.hi
def Lim.ok (e : Lim) : Prop := e.x.length ≤ 20 ∧ FewO e.lo ∧ FewO e.hi
def spTableText (K : PySem.W.Frag) : Sp := fun vs H Q _ => ∃ (a : Addr) (xs : List V) (es : List Giv), vs = [.ref a] ∧ (SqL K H a xs ∨ SqT K H a xs) ∧ DpAll K H xs (es.map Giv.D) ∧ (∀ e ∈ es, e.ok) ∧ es.length ≤ 20 ∧
  ∀ H', Same H H' → Q (tx (TL.joinL [44, 32] (es.map fun e => entL e.x e.z))) H'
def spLimitsText (K : PySem.W.Frag) : Sp := fun vs H Q _ => ∃ (a : Addr) (xs : List V) (es : List Lim), vs = [.ref a] ∧ SqT K H a xs ∧ DpAll K H xs (es.map Lim.D) ∧ (∀ e ∈ es, e.ok) ∧ es.length ≤ 20 ∧
  ∀ H', Same H H' → Q (tx (TL.joinL [44, 32] (es.map Lim.L))) H'
theorem sxs_snoc (ps : List (List Nat)) (p : List Nat) : sxs (ps ++ [p]) = sxs ps ++ [tx p] := by
  unfold sxs
  rw [List.map_append, List.map_append]
  rfl
theorem sum_fit {ps : List (List Nat)} {n : Nat} {m : Nat} (h : ∀ p ∈ ps, p.length ≤ 100) (hn : ps.length ≤ n) (hm : 100 * n + n * m ≤ 16777216) : ((ps.map SX.S).map (·.length)).sum + (ps.map SX.S).length * m ≤ 16777216 := by
  have key : ∀ qs : List (List Nat), (∀ p ∈ qs, p.length ≤ 100) → ((qs.map SX.S).map (·.length)).sum ≤ 100 * qs.length := by
    intro qs
    induction qs with
    | nil => exact fun _ => Nat.le_refl _
    | cons q qs ih =>
      intro hq
      have h1 := hq q (List.mem_cons_self ..)
      have h2 := ih fun p hp => hq p (List.mem_cons_of_mem _ hp)
      rw [List.map_cons, List.map_cons, List.sum_cons, List.length_cons, SX.S_len]
      omega
  have k := key ps h
  rw [List.length_map]
  have k2 : ps.length * m ≤ n * m := Nat.mul_le_mul_right m hn
  omega
theorem lim_len {e : Lim} (h : e.ok) : e.L.length ≤ 100 := by
  show (limL e.x e.lo e.hi).length ≤ 100
  rw [limL_eq, List.length_append, List.length_append]
  have h1 := h.1
  have h2 : (lowT e.lo).length ≤ 36 := by
    have := h.2.1
    cases z : e.lo with
    | none => exact Nat.zero_le _
    | some y =>
      rw [z] at this
      have := Few.len this
      show ([32, 102, 114, 111, 109, 32] ++ ratL y).length ≤ 36
      rw [List.length_append]
      show 6 + _ ≤ 36
      omega
  have h3 : (highT e.hi).length ≤ 34 := by
    have := h.2.2
    cases z : e.hi with
    | none => exact Nat.zero_le _
    | some y =>
      rw [z] at this
      have := Few.len this
      show ([32, 116, 111, 32] ++ ratL y).length ≤ 34
      rw [List.length_append]
      show 4 + _ ≤ 34
      omega
  omega
theorem ent_len {e : Giv} (h : e.ok) : (entL e.x e.z).length ≤ 100 := by
  have h1 := h.1
  have h2 := h.2.2.len
  unfold entL
  rw [List.length_append, List.length_append]
  show _ + (3 + _) ≤ 100
  omega
section
variable {P : Program} {w : World} {K : PySem.W.Frag} {mg : Str → Option Value} {base : Heap}
theorem ok_limits_text (GX : Kn P w K mg base CX0 "limit_text" 5 ["limit"] (spLimText K)) (D : Df K mg "limits_text" s_limits_text ["limits"]) : Kn P w K mg base CX0 "limits_text" 6 ["limits"] (spLimitsText K) := by
  obtain ⟨f, fd, F, hm, hb⟩ := D
  obtain ⟨f_limit_text, fd_limit_text, G_limit_text, m_limit_text, k_limit_text, b_limit_text⟩ := GX
  refine ⟨f, fd, F.ok sc_limits_text (fun vs H Q E h => ?_) (fun cdv A outer s H vs Q E hr h => ?_), hm, F.kp, hb⟩
  · obtain ⟨a, xs, es, rfl, _⟩ := h
    rfl
  · obtain ⟨a, xs, es, rfl, ha, hall, hok, hn, q⟩ := h
    refine ⟨_, (pss_one (ps_ret (pe_bm PySem.F.plainAttrs_str PySem.F.slot_str_join PySem.F.type_str_join mt_join pe_str (pa_cons (pe_lc (own := [("limit", 1)]) rfl sc_limits_text.nd (pi_tup (pv 0)) (blkOk_by (N := ["limits", "limit"]) (sc := defScope s_limits_text) (by decide +kernel)) (fun _ _ _ _ _ => (pg_name (i := 1) sc_limits_text.nd rfl (Or.inl rfl))) (fun _ _ _ _ _ => pts_nil) (fun _ _ _ _ _ => (pe_call G_limit_text (hr.mono (by omega)) rfl m_limit_text k_limit_text b_limit_text .nil pass0 (pa_cons (pv 1) pa_nil)))) pa_nil)))), ?_⟩
    have sep : Str.ofString ", " = SX.S [44, 32] := by decide +kernel
    have lx : xs.length = es.length := by
      have := dps_len hall
      rw [List.length_map] at this
      exact this
    refine ⟨rfl, _, rfl, a, rfl, ⟨_, ha⟩, fun D hD => ?_⟩
    refine lc_tup (K := K) (a := a) (xs := xs) (fun i H' => Same H H' ∧ H' D = some (.lst (sxs ((es.take i).map Lim.L)))) ⟨same_new hD _, upd_same⟩ (fun i H' _ h => same_seqT h.1 ha) ?_ ?_
    · rintro i y H2 hx ⟨s2, hl⟩
      obtain ⟨dt, hdt, hdx⟩ := dps_get hall hx
      rw [List.getElem?_map] at hdt
      obtain ⟨e, he, rfl⟩ : ∃ e, es[i]? = some e ∧ Lim.D e = dt := by
        cases z : es[i]? with
        | none => rw [z] at hdt; cases hdt
        | some e => rw [z] at hdt; exact ⟨e, rfl, Option.some.inj hdt⟩
      have hi := get_lt he
      have ok := hok e (List.mem_of_getElem? he)
      refine ⟨rfl, _, rfl, y, e.x, e.lo, e.hi, rfl, dp_same s2 _ _ hdx, ok.1, ok.2.1, ok.2.2, fun H3 s3 => ?_⟩
      have hl3 := s3 _ _ hl
      refine ⟨_, hl3, ?_, same_upd (s2.trans s3) hD, ?_⟩
      · rw [List.length_map, List.length_map, List.length_map]
        exact small1000 (by rw [List.length_take]; omega)
      · rw [upd_same, take_more he, List.map_append, show List.map Lim.L [e] = [limL e.x e.lo e.hi] from rfl, sxs_snoc]
    · rintro H2 ⟨s2, hl⟩
      rw [lx, List.take_length] at hl
      refine ⟨_, D, _, rfl, rfl, .inl (SqL.of hl), ?_, ?_⟩
      · refine sum_fit (n := 20) (fun p hp => ?_) (by rw [List.length_map]; exact hn) (by decide +kernel)
        obtain ⟨e, he, rfl⟩ := List.mem_map.mp hp
        exact lim_len (hok e he)
      · rw [sep, SX.join_S]
        exact q H2 s2
theorem ok_table_text (GX : Kn P w K mg base CX0 "ratio_text" 4 ["number"] (spRatText K)) (D : Df K mg "table_text" s_table_text ["table"]) : Kn P w K mg base CX0 "table_text" 5 ["table"] (spTableText K) := by
  obtain ⟨f, fd, F, hm, hb⟩ := D
  obtain ⟨f_ratio_text, fd_ratio_text, G_ratio_text, m_ratio_text, k_ratio_text, b_ratio_text⟩ := GX
  refine ⟨f, fd, F.ok sc_table_text (fun vs H Q E h => ?_) (fun cdv A outer s H vs Q E hr h => ?_), hm, F.kp, hb⟩
  · obtain ⟨a, xs, es, rfl, _⟩ := h
    rfl
  · obtain ⟨a, xs, es, rfl, ha, hall, hok, hn, q⟩ := h
    refine ⟨_, (pss_one (ps_ret (pe_bm PySem.F.plainAttrs_str PySem.F.slot_str_join PySem.F.type_str_join mt_join pe_str (pa_cons (pe_lc (own := [("name", 1), ("number", 2)]) rfl sc_table_text.nd (pi_seq (pv 0)) (blkOk_by (N := ["table", "name", "number"]) (sc := defScope s_table_text) (by decide +kernel)) (fun _ _ _ _ _ => (pg_tupK (K := K) (n := 2) rfl (by rfl) (pgs_cons (pg_name (i := 1) sc_table_text.nd rfl (Or.inl rfl)) (pgs_cons (pg_name (i := 2) sc_table_text.nd rfl (Or.inl rfl)) pgs_nil)) (by rfl) (by rfl))) (fun _ _ _ _ _ => pts_nil) (fun _ _ _ _ _ => (pe_op op_add_str (pe_op op_add_str (pv 1) pe_str) (pe_call G_ratio_text (hr.mono (by omega)) rfl m_ratio_text k_ratio_text b_ratio_text .nil pass0 (pa_cons (pv 2) pa_nil))))) pa_nil)))), ?_⟩
    have sep : Str.ofString ", " = SX.S [44, 32] := by decide +kernel
    have eqs : Str.ofString " = " = SX.S [32, 61, 32] := by decide +kernel
    have lx : xs.length = es.length := by
      have := dps_len hall
      rw [List.length_map] at this
      exact this
    have step : ∀ (D : Addr) (i : Nat) (y : V) (H2 : Hp), H D = none → xs[i]? = some y → (Same H H2 ∧ H2 D = some (.lst (sxs ((es.take i).map fun e => entL e.x e.z)))) → ∃ e, es[i]? = some e ∧ e.ok ∧ Dp K H2 y e.D ∧ i < es.length := by
      rintro D i y H2 hD hx ⟨s2, hl⟩
      obtain ⟨dt, hdt, hdx⟩ := dps_get hall hx
      rw [List.getElem?_map] at hdt
      obtain ⟨e, he, rfl⟩ : ∃ e, es[i]? = some e ∧ Giv.D e = dt := by
        cases z : es[i]? with
        | none => rw [z] at hdt; cases hdt
        | some e => rw [z] at hdt; exact ⟨e, rfl, Option.some.inj hdt⟩
      exact ⟨e, he, hok e (List.mem_of_getElem? he), dp_same s2 _ _ hdx, get_lt he⟩
    have fin : ∀ (D : Addr) (H2 : Hp), (Same H H2 ∧ H2 D = some (.lst (sxs ((es.take xs.length).map fun e => entL e.x e.z)))) → H2 D = some (.lst (sxs (es.map fun e => entL e.x e.z))) := by
      rintro D H2 ⟨s2, hl⟩
      rw [lx, List.take_length] at hl
      exact hl
    rcases ha with ha | ha
    · refine ⟨rfl, _, rfl, a, rfl, .inl ⟨⟨_, ha⟩, fun D hD => ?_⟩⟩
      refine lc_list (K := K) (a := a) (xs := xs) (fun i H' => Same H H' ∧ H' D = some (.lst (sxs ((es.take i).map fun e => entL e.x e.z)))) ⟨same_new hD _, upd_same⟩ (fun i H' _ h => h.1.seq ha) ?_ ?_
      · rintro i y H2 hx ⟨s2, hl⟩
        obtain ⟨e, he, ok, hdx, hi⟩ := step D i y H2 hD hx ⟨s2, hl⟩
        cases hdx with
        | @tup pb xs_ _ hsq hal =>
          cases hal with
          | @cons v0 _ _ _ hv0 hal =>
            cases hal with
            | @cons v1 _ _ _ hv1 hal =>
              cases hal
              cases hv0
              have lz := ok.2.2.len
              have lxx := ok.1
              refine ⟨pb, _, rfl, hsq, rfl, _, _, rfl, _, _, rfl, rfl, rfl, _, rfl, _, _, rfl, rfl, (by rw [eqs, SX.S_len, SX.S_len]; exact fitN (by show _ + 3 ≤ 5000; omega)), _, rfl, v1, e.z, rfl, ⟨_, hv1, ok.2.1⟩, ok.2.2.big.1, ok.2.2.big.2, fun H3 s3 => ?_⟩
              have hl3 := s3 _ _ hl
              refine ⟨_, _, rfl, rfl, (by rw [eqs, SX.S_cat, SX.S_len, SX.S_len, List.length_append]; exact fitN (by show _ + 3 + _ ≤ 5000; omega)), _, hl3, ?_, same_upd (s2.trans s3) hD, ?_⟩
              · rw [List.length_map, List.length_map, List.length_map]
                exact small1000 (by rw [List.length_take]; omega)
              · rw [upd_same, take_more he, List.map_append, show List.map (fun e : Giv => entL e.x e.z) [e] = [entL e.x e.z] from rfl, sxs_snoc, eqs, SX.S_cat, SX.S_cat, List.append_assoc e.x]
                rfl
      · rintro H2 ⟨s2, hl⟩
        have hl := fin D H2 ⟨s2, hl⟩
        refine ⟨_, D, _, rfl, rfl, .inl (SqL.of hl), ?_, ?_⟩
        · refine sum_fit (n := 20) (fun p hp => ?_) (by rw [List.length_map]; exact hn) (by decide +kernel)
          obtain ⟨e, he, rfl⟩ := List.mem_map.mp hp
          exact ent_len (hok e he)
        · rw [sep, SX.join_S]
          exact q H2 s2
    · refine ⟨rfl, _, rfl, a, rfl, .inr ⟨⟨_, ha⟩, fun D hD => ?_⟩⟩
      refine lc_tup (K := K) (a := a) (xs := xs) (fun i H' => Same H H' ∧ H' D = some (.lst (sxs ((es.take i).map fun e => entL e.x e.z)))) ⟨same_new hD _, upd_same⟩ (fun i H' _ h => same_seqT h.1 ha) ?_ ?_
      · rintro i y H2 hx ⟨s2, hl⟩
        obtain ⟨e, he, ok, hdx, hi⟩ := step D i y H2 hD hx ⟨s2, hl⟩
        cases hdx with
        | @tup pb xs_ _ hsq hal =>
          cases hal with
          | @cons v0 _ _ _ hv0 hal =>
            cases hal with
            | @cons v1 _ _ _ hv1 hal =>
              cases hal
              cases hv0
              have lz := ok.2.2.len
              have lxx := ok.1
              refine ⟨pb, _, rfl, hsq, rfl, _, _, rfl, _, _, rfl, rfl, rfl, _, rfl, _, _, rfl, rfl, (by rw [eqs, SX.S_len, SX.S_len]; exact fitN (by show _ + 3 ≤ 5000; omega)), _, rfl, v1, e.z, rfl, ⟨_, hv1, ok.2.1⟩, ok.2.2.big.1, ok.2.2.big.2, fun H3 s3 => ?_⟩
              have hl3 := s3 _ _ hl
              refine ⟨_, _, rfl, rfl, (by rw [eqs, SX.S_cat, SX.S_len, SX.S_len, List.length_append]; exact fitN (by show _ + 3 + _ ≤ 5000; omega)), _, hl3, ?_, same_upd (s2.trans s3) hD, ?_⟩
              · rw [List.length_map, List.length_map, List.length_map]
                exact small1000 (by rw [List.length_take]; omega)
              · rw [upd_same, take_more he, List.map_append, show List.map (fun e : Giv => entL e.x e.z) [e] = [entL e.x e.z] from rfl, sxs_snoc, eqs, SX.S_cat, SX.S_cat, List.append_assoc e.x]
                rfl
      · rintro H2 ⟨s2, hl⟩
        have hl := fin D H2 ⟨s2, hl⟩
        refine ⟨_, D, _, rfl, rfl, .inl (SqL.of hl), ?_, ?_⟩
        · refine sum_fit (n := 20) (fun p hp => ?_) (by rw [List.length_map]; exact hn) (by decide +kernel)
          obtain ⟨e, he, rfl⟩ := List.mem_map.mp hp
          exact ent_len (hok e he)
        · rw [sep, SX.join_S]
          exact q H2 s2
end

def spWritten (K : PySem.W.Frag) : Sp := fun vs H Q _ => ∃ (v : V) (z : Int × Int), vs = [v] ∧ Dp K H v (rat z.1 z.2) ∧ Few z ∧ Q (tx (ratL z)) H
section
variable {P : Program} {w : World} {K : PySem.W.Frag} {mg : Str → Option Value} {base : Heap}
theorem ok_written (T : Bt mg) (Tt : Ut mg) (D : Df K mg "_law_written" s_l_written ["_law_number_here"]) : Kn P w K mg base CX0 "_law_written" 1 ["_law_number_here"] (spWritten K) := by
  obtain ⟨f, fd, F, hm, hb⟩ := D
  refine ⟨f, fd, F.ok sc_l_written (fun vs H Q E h => ?_) (fun cdv A outer s H vs Q E hr h => ?_), hm, F.kp, hb⟩
  · obtain ⟨v, z, rfl, _⟩ := h
    rfl
  · obtain ⟨v, z, rfl, hv, hz, q⟩ := h
    refine ⟨_, (pss_one (ps_ret (pe_op op_add_str (pe_callTy call_str_int (by rfl) Tt.n_str (by decide +kernel) (pa_cons (pe_ix ix_tup (pv 0) pe_int (fun _ _ => rfl)) pa_nil)) (pe_op op_mul_strI (pe_op op_add_str pe_str (pe_callTy call_str_int (by rfl) Tt.n_str (by decide +kernel) (pa_cons (pe_ix ix_tup (pv 0) pe_int (fun _ _ => rfl)) pa_nil))) (pe_callTy call_int1 (by rfl) T.n_int (by decide +kernel) (pa_cons (pe_cmpR op_gt (pe_ix ix_tup (pv 0) pe_int (fun _ _ => rfl)) pe_int (nomark _)) pa_nil)))))), ?_⟩
    have slash : Str.ofString "/" = SX.S [47] := by decide +kernel
    have lg : ∀ n : Int, n.natAbs < 2 ^ 40 → n.natAbs.log2 < 1920 := fun n h => log700 (Nat.lt_trans h (by decide))
    have hpos := hz.1.pos
    cases hv with
    | @tup pn xs_ _ hsq hal =>
      cases hal with
      | @cons v0 _ _ _ hv0 hal =>
        cases hal with
        | @cons v1 _ _ _ hv1 hal =>
          cases hal
          cases hv0
          cases hv1
          refine ⟨_, rfl, pn, _, _, .int z.1, rfl, rfl, hsq, rfl, _, rfl, lg _ hz.2.1, ?_⟩
          refine ⟨_, rfl, pn, _, _, .int z.2, rfl, rfl, hsq, rfl, _, rfl, lg _ hz.2.2, ?_⟩
          rw [int_txt, int_txt]
          have l1 := intL_le (k := 13) (by decide) hz.nat.1
          have l2 := intL_le (k := 13) (by decide) hz.nat.2
          refine ⟨_, _, rfl, rfl, (by rw [slash, SX.S_len, SX.S_len]; exact fitN (by show 1 + _ ≤ 5000; omega)), ?_⟩
          rw [slash, SX.S_cat]
          refine ⟨_, rfl, pn, _, _, .int z.2, rfl, rfl, hsq, rfl, _, _, rfl, rfl, .inr ⟨_, rfl, ?_⟩⟩
          by_cases c : z.2 = 1
          · rw [decide_eq_false (by omega)]
            refine ⟨47 :: intL z.2, 0, rfl, rfl, by decide, by rw [List.length_cons]; omega, ?_⟩
            refine ⟨_, _, rfl, rfl, (by rw [SX.S_len, SX.S_len]; exact fitN (by show _ + 0 ≤ 5000; omega)), ?_⟩
            have q0 := q
            rw [SX.S_cat]
            unfold ratL at q0
            rw [if_pos c] at q0
            rw [show repL 0 (47 :: intL z.2) = [] from rfl, List.append_nil]
            exact q0
          · rw [decide_eq_true (by omega)]
            have e1 : repL 1 (47 :: intL z.2) = 47 :: intL z.2 := by
              show (47 :: intL z.2) ++ [] = _
              rw [List.append_nil]
            refine ⟨47 :: intL z.2, 1, rfl, rfl, by decide, by rw [List.length_cons]; omega, ?_⟩
            rw [e1]
            refine ⟨_, _, rfl, rfl, (by rw [SX.S_len, SX.S_len, List.length_cons]; exact fitN (by omega)), ?_⟩
            have q0 := q
            rw [SX.S_cat]
            unfold ratL at q0
            rw [if_neg c] at q0
            exact q0
theorem ok_end_text (GW : Kn P w K mg base CX0 "_law_written" 1 ["_law_number_here"] (spWritten K)) (D : Df K mg "_law_end_text" s_l_end_text ["_law_limit"]) : Kn P w K mg base CX0 "_law_end_text" 2 ["_law_limit"] (spLimText K) := by
  obtain ⟨f, fd, F, hm, hb⟩ := D
  obtain ⟨f_l_written, fd_l_written, G_l_written, m_l_written, k_l_written, b_l_written⟩ := GW
  refine ⟨f, fd, F.ok sc_l_end_text (fun vs H Q E h => ?_) (fun cdv A outer s H vs Q E hr h => ?_), hm, F.kp, hb⟩
  · obtain ⟨v, x, lo, hi, rfl, _⟩ := h
    rfl
  · obtain ⟨v, x, lo, hi, rfl, hv, hx, hlo, hhi, q⟩ := h
    refine ⟨_, (pss_cons (ps_asg (pv 0) (pg_tup (by rfl) (pgs_cons (pg_name (i := 1) sc_l_end_text.nd rfl (Or.inl rfl)) (pgs_cons (pg_name (i := 2) sc_l_end_text.nd rfl (Or.inl rfl)) (pgs_cons (pg_name (i := 3) sc_l_end_text.nd rfl (Or.inl rfl)) pgs_nil)))))
      (pss_cons (ps_set (i := 4) sc_l_end_text.nd rfl (Or.inl rfl) (pv 1))
      (C8.pss_cut (ps_if (pt_cmpR op_notN (pv 2) pe_non (nomark _)) (pss_one (ps_set (i := 4) sc_l_end_text.nd rfl (Or.inl rfl) (pe_op op_add_str (pe_op op_add_str (pv 4) pe_str) (pe_call G_l_written (hr.mono (by omega)) rfl m_l_written k_l_written b_l_written .nil pass0 (pa_cons (pv 2) pa_nil))))) pss_nil)
      (C8.pss_cut (ps_if (pt_cmpR op_notN (pv 3) pe_non (nomark _)) (pss_one (ps_set (i := 4) sc_l_end_text.nd rfl (Or.inl rfl) (pe_op op_add_str (pe_op op_add_str (pv 4) pe_str) (pe_call G_l_written (hr.mono (by omega)) rfl m_l_written k_l_written b_l_written .nil pass0 (pa_cons (pv 3) pa_nil))))) pss_nil)
      (pss_one (ps_ret (pv 4))))))), ?_⟩
    cases hv with
    | @tup pb xs_ _ hsq hal =>
      cases hal with
      | @cons v0 _ _ _ hv0 hal =>
        cases hal with
        | @cons v1 _ _ _ hv1 hal =>
          cases hal with
          | @cons v2 _ _ _ hv2 hal =>
            cases hal
            cases hv0
            refine ⟨_, rfl, pb, _, rfl, hsq, rfl, _, _, rfl, _, _, rfl, _, _, rfl, rfl, ?_⟩
            have froms : Str.ofString " from " = SX.S [32, 102, 114, 111, 109, 32] := by decide +kernel
            have tos : Str.ofString " to " = SX.S [32, 116, 111, 32] := by decide +kernel
            have lx : (SX.S x).length ≤ 20 := by rw [SX.S_len]; exact hx
            have ll : (lowT lo).length ≤ 36 := by
              cases lo with
              | none => exact Nat.zero_le _
              | some z =>
                have := Few.len hlo
                show ([32, 102, 114, 111, 109, 32] ++ ratL z).length ≤ 36
                rw [List.length_append]
                show 6 + _ ≤ 36
                omega
            refine ⟨_, rfl, ?_⟩
            refine ⟨fun σ H' => H = H' ∧ σ = [some (.ref pb), some (tx x), some v1, some v2, some (tx (x ++ lowT lo))], ?_, ?_⟩
            · refine ⟨_, rfl, rfl, _, rfl, ?_⟩
              refine ite2 (fun c => ?_) (fun c => ?_)
              · cases lo with
                | none =>
                  cases hv1
                  exact absurd c (by decide)
                | some z =>
                  have := Few.len hlo
                  refine ⟨_, rfl, _, _, rfl, rfl, (by rw [froms, SX.S_len, SX.S_len]; exact fitN (by show _ + 6 ≤ 5000; omega)), _, rfl, v1, z, rfl, hv1, hlo, ?_⟩
                  refine ⟨_, _, rfl, rfl, (by rw [froms, SX.S_cat, SX.S_len, SX.S_len, List.length_append]; exact fitN (by show _ + 6 + _ ≤ 5000; omega)), rfl, ?_⟩
                  rw [froms, SX.S_cat, SX.S_cat, List.append_assoc]
                  rfl
              · cases lo with
                | none => exact ⟨rfl, by rw [show lowT none = [] from rfl, List.append_nil]; rfl⟩
                | some z =>
                  cases (show Dp K H v1 (rat z.1 z.2) from hv1) with
                  | tup _ _ => exact absurd (by rfl) c
            rintro σ H1 ⟨rfl, rfl⟩
            refine ⟨fun σ H' => H = H' ∧ σ = [some (.ref pb), some (tx x), some v1, some v2, some (tx ((x ++ lowT lo) ++ highT hi))], ?_, ?_⟩
            · refine ⟨_, rfl, rfl, _, rfl, ?_⟩
              refine ite2 (fun c => ?_) (fun c => ?_)
              · cases hi with
                | none =>
                  cases hv2
                  exact absurd c (by decide)
                | some z =>
                  have := Few.len hhi
                  refine ⟨_, rfl, _, _, rfl, rfl, (by rw [tos, SX.S_len, SX.S_len, List.length_append]; exact fitN (by show _ + _ + 4 ≤ 5000; omega)), _, rfl, v2, z, rfl, hv2, hhi, ?_⟩
                  refine ⟨_, _, rfl, rfl, (by rw [tos, SX.S_cat, SX.S_len, SX.S_len, List.length_append, List.length_append]; exact fitN (by show _ + _ + 4 + _ ≤ 5000; omega)), rfl, ?_⟩
                  rw [tos, SX.S_cat, SX.S_cat, List.append_assoc (x ++ lowT lo)]
                  rfl
              · cases hi with
                | none => exact ⟨rfl, by rw [show highT none = [] from rfl, List.append_nil]⟩
                | some z =>
                  cases (show Dp K H v2 (rat z.1 z.2) from hv2) with
                  | tup _ _ => exact absurd (by rfl) c
            rintro σ H2 ⟨rfl, rfl⟩
            refine ⟨_, rfl, ?_⟩
            have q0 := q H (Same.refl _)
            rw [limL_eq] at q0
            exact q0
end

def rdB (b : Bool) : List Nat → Option PyData := if b = true then readE else readM
def wayS (b : Bool) : Str := if b = true then Str.ofString "table" else Str.ofString "limits"
def spReading (K : PySem.W.Frag) : Sp := fun vs H Q _ => ∃ (b : Bool) (l : List Nat), vs = [.str (wayS b), tx l] ∧ l.length ≤ 4000 ∧ (∀ p ∈ partsL l, p.length ≤ 100 ∧ Asc p) ∧ (partsL l).length ≤ 100 ∧
  ∀ r H', Same H H' → Dp K H' r (foundD ((partsL l).map (rdB b))) → Q r H'
section
variable {P : Program} {w : World} {K : PySem.W.Frag} {mg : Str → Option Value} {base : Heap}
theorem ok_reading {C : Addr} (Tb : ErrF P w K mg base "BadText" "at" C) (GT : Kn P w K mg base (L2.CX P w) "read_table" 6 ["text"] (spReadAll K C readE)) (GL : Kn P w K mg base (L2.CX P w) "read_limits" 7 ["text"] (spReadAll K C readM))
    (D : Df K mg "_law_reading" s_l_reading ["_law_way", "_law_text"]) : Kn P w K mg base CX0 "_law_reading" 8 ["_law_way", "_law_text"] (spReading K) := by
  obtain ⟨f, fd, F, hm, hb⟩ := D
  obtain ⟨f_read_table, fd_read_table, G_read_table, m_read_table, k_read_table, b_read_table⟩ := GT
  obtain ⟨f_read_limits, fd_read_limits, G_read_limits, m_read_limits, k_read_limits, b_read_limits⟩ := GL
  refine ⟨f, fd, F.ok sc_l_reading (fun vs H Q E h => ?_) (fun cdv A outer s H vs Q E hr h => ?_), hm, F.kp, hb⟩
  · obtain ⟨b, l, rfl, _⟩ := h
    rfl
  · obtain ⟨b, l, rfl, hl, hp, hn, q⟩ := h
    refine ⟨_, (pss_cons (ps_set (i := 2) sc_l_reading.nd rfl (Or.inl rfl) pe_non)
      (pss_cons (ps_try_as (i := 3) rfl rfl sc_l_reading.nd rfl rfl ⟨rfl, by decide, Or.inl Tb.gC⟩ takes0 (fun W pn xe tk _ => (pss_one (ps_set (i := 2) sc_l_reading.nd rfl (Or.inl rfl) (pe_tup (pa_cons pe_str (pa_cons (pe_ifExp (pt_cmpR op_eq (pv 0) pe_str (nomark _)) (pe_callS G_read_table (hr.mono (by omega)) rfl m_read_table k_read_table b_read_table (fun σ => passAt tk σ) (pa_cons (pv 1) pa_nil)) (pe_callS G_read_limits (hr.mono (by omega)) rfl m_read_limits k_read_limits b_read_limits (fun σ => passAt tk σ) (pa_cons (pv 1) pa_nil))) pa_nil)))))) (fun ea oe cls ed pn hz hf => (pss_one (ps_set (i := 2) sc_l_reading.nd rfl (Or.inl rfl) (pe_tup (pa_cons pe_str (pa_cons (pe_xf Tb.xf Tb.no hz hf (pv 3)) pa_nil)))))))
      (pss_one (ps_ret (pv 2))))), ?_⟩
    have good : ∀ (ds : List (Option PyData)) (r : V) (H1 : Hp) (pt : Addr), ds.any isNo = false → H1 pt = none → Dp K H1 r (.tuple (ds.map oD)) → Dp K (upd H1 pt (.tup [.str "read", r])) (.ref pt) (foundD ds) := fun ds r H1 pt e np hr => by
      unfold foundD
      rw [if_neg (by rw [e]; exact Bool.false_ne_true)]
      exact .tup (SqT.of upd_same) (.cons (.str _) (.cons (dp_same (same_new np _) _ _ hr) .nil))
    have bad : ∀ (ds : List (Option PyData)) (H1 : Hp) (pt : Addr), ds.any isNo = true → Dp K (upd H1 pt (.tup [.str "bad", .int ((ds.findIdx isNo : Nat) : Int)])) (.ref pt) (foundD ds) := fun ds H1 pt e => by
      unfold foundD
      rw [if_pos e]
      exact .tup (SqT.of upd_same) (.cons (.str _) (.cons (.int _) .nil))
    refine ⟨_, rfl, rfl, _, rfl, ?_⟩
    cases b with
    | true =>
      refine ite2 (fun c => ?_) (fun c => ?_)
      · refine ⟨_, rfl, l, rfl, hl, hp, hn, fun e r H1 s1 hr1 => ?_, fun e dx H1 s1 hx => ?_⟩
        · refine ⟨(by show 2 ≤ sizeLine; decide), fun pt np => ?_⟩
          exact ⟨_, rfl, q _ _ (s1.trans (same_new np _)) (good _ _ _ _ e np hr1)⟩
        · refine ⟨true, Tb.ex, fun _ ea hea => ?_, fun z => nomatch z⟩
          refine ⟨_, rfl, rfl, rfl, dx, _, _, rfl, hx, rfl, (by show 2 ≤ sizeLine; decide), fun pt np => ⟨_, rfl, ?_⟩⟩
          exact q _ _ (s1.trans (same_new np _)) (bad _ _ _ e)
      · exact absurd (by decide +kernel) c
    | false =>
      refine ite2 (fun c => ?_) (fun c => ?_)
      · exact absurd c (by decide +kernel)
      · refine ⟨_, rfl, l, rfl, hl, hp, hn, fun e r H1 s1 hr1 => ?_, fun e dx H1 s1 hx => ?_⟩
        · refine ⟨(by show 2 ≤ sizeLine; decide), fun pt np => ?_⟩
          exact ⟨_, rfl, q _ _ (s1.trans (same_new np _)) (good _ _ _ _ e np hr1)⟩
        · refine ⟨true, Tb.ex, fun _ ea hea => ?_, fun z => nomatch z⟩
          refine ⟨_, rfl, rfl, rfl, dx, _, _, rfl, hx, rfl, (by show 2 ≤ sizeLine; decide), fun pt np => ⟨_, rfl, ?_⟩⟩
          exact q _ _ (s1.trans (same_new np _)) (bad _ _ _ e)
end

def badB (b : Bool) : List (List Nat) := if b = true then badT else badM
def spBadPart : Sp := fun vs H Q _ => ∃ (bx g c : Addr) (n : Nat) (b : Bool), vs = [.ref bx, .str (wayS b)] ∧ Box H bx g c n ∧ n + 1 < 1000000 ∧ ∀ l H', l ∈ badB b → Box H' bx g c (n + 1) → But bx g H H' → Q (tx l) H'
section
variable {P : Program} {w : World} {K : PySem.W.Frag} {mg : Str → Option Value} {base : Heap}
theorem ok_bad_part (T : Bt mg) (GT : Kn P w K mg base CX0 "_law_take" 2 ["_law_box_here", "_law_size"] spTake) (D : Df K mg "_law_bad_part" s_l_bad_part ["_law_box_here", "_law_way"]) : Kn P w K mg base CX0 "_law_bad_part" 3 ["_law_box_here", "_law_way"] spBadPart := by
  obtain ⟨f, fd, F, hm, hb⟩ := D
  obtain ⟨f_l_take, fd_l_take, G_l_take, m_l_take, k_l_take, b_l_take⟩ := GT
  refine ⟨f, fd, F.ok sc_l_bad_part (fun vs H Q E h => ?_) (fun cdv A outer s H vs Q E hr h => ?_), hm, F.kp, hb⟩
  · obtain ⟨bx, g, c, n, b, rfl, _⟩ := h
    rfl
  · obtain ⟨bx, g, c, n, b, rfl, B, hn, q⟩ := h
    refine ⟨_, (pss_cons (ps_set (i := 2) sc_l_bad_part.nd rfl (Or.inl rfl) (pe_lst (pa_cons pe_str (pa_cons pe_str (pa_cons pe_str (pa_cons pe_str (pa_cons pe_str (pa_cons pe_str (pa_cons pe_str (pa_cons pe_str (pa_cons pe_str (pa_cons pe_str (pa_cons pe_str pa_nil)))))))))))))
      (pss_cons (ps_set (i := 2) sc_l_bad_part.nd rfl (Or.inl rfl) (pe_op op_cat (pv 2) (pe_lst (pa_cons pe_str (pa_cons pe_str (pa_cons pe_str (pa_cons pe_str (pa_cons pe_str (pa_cons pe_str (pa_cons pe_str (pa_cons pe_str pa_nil)))))))))))
      (C8.pss_cut (ps_if (pt_cmpR op_eq (pv 1) pe_str (nomark _)) (pss_cons (ps_set (i := 2) sc_l_bad_part.nd rfl (Or.inl rfl) (pe_lst (pa_cons pe_str (pa_cons pe_str (pa_cons pe_str (pa_cons pe_str (pa_cons pe_str (pa_cons pe_str (pa_cons pe_str (pa_cons pe_str pa_nil))))))))))
      (pss_one (ps_set (i := 2) sc_l_bad_part.nd rfl (Or.inl rfl) (pe_op op_cat (pv 2) (pe_lst (pa_cons pe_str (pa_cons pe_str (pa_cons pe_str (pa_cons pe_str (pa_cons pe_str (pa_cons pe_str (pa_cons pe_str (pa_cons pe_str pa_nil))))))))))))) pss_nil)
      (pss_one (ps_ret (pe_ix ix_list (pv 2) (pe_call G_l_take (hr.mono (by omega)) rfl m_l_take k_l_take b_l_take .nil pass0 (pa_cons (pv 0) (pa_cons (pe_callB (call_lenK (K := K) rfl) (by rfl) T.n_len (by decide +kernel) (pa_cons (pv 2) pa_nil)) pa_nil))) (fun _ _ => rfl))))))), ?_⟩
    refine ⟨(by show 11 ≤ sizeLine; decide), fun p1 np1 => ?_⟩
    have f1 := same_new np1 (.lst (sxs (badT.take 11)))
    have e1 : (sxs (badT.take 11)) = [V.str "a=3", .str "a =3", .str "a = ", .str "a = x", .str " a = 3", .str "A = 3", .str "a = 3 ", .str "a = 1/0", .str "a  = 3", .str "", .str "sum = 3"] := congrArg (List.map V.str) (show (badT.take 11).map SX.S = [Str.ofString "a=3", Str.ofString "a =3", Str.ofString "a = ", Str.ofString "a = x", Str.ofString " a = 3", Str.ofString "A = 3", Str.ofString "a = 3 ", Str.ofString "a = 1/0", Str.ofString "a  = 3", Str.ofString "", Str.ofString "sum = 3"] by decide +kernel)
    have e2 : (sxs (badT.drop 11)) = [V.str "a = -", .str "a = 1.", .str "a = +1", .str "a", .str "abcdefghi = 1", .str "a = 3 4", .str "a = 1/-2", .str "a: 3"] := congrArg (List.map V.str) (show (badT.drop 11).map SX.S = [Str.ofString "a = -", Str.ofString "a = 1.", Str.ofString "a = +1", Str.ofString "a", Str.ofString "abcdefghi = 1", Str.ofString "a = 3 4", Str.ofString "a = 1/-2", Str.ofString "a: 3"] by decide +kernel)
    have e3 : (sxs (badM.take 8)) = [V.str "a from", .str "a from x", .str "a to 3 from 1", .str "a from 1 from 2", .str "from 1", .str "A", .str "a  from 1", .str "a from 1 to"] := congrArg (List.map V.str) (show (badM.take 8).map SX.S = [Str.ofString "a from", Str.ofString "a from x", Str.ofString "a to 3 from 1", Str.ofString "a from 1 from 2", Str.ofString "from 1", Str.ofString "A", Str.ofString "a  from 1", Str.ofString "a from 1 to"] by decide +kernel)
    have e4 : (sxs (badM.drop 8)) = [V.str "", .str "sum to 1", .str "a from 1 to 2 3", .str "a To 1", .str "a = 1", .str "a from 1/0", .str "a from - to 1", .str " a"] := congrArg (List.map V.str) (show (badM.drop 8).map SX.S = [Str.ofString "", Str.ofString "sum to 1", Str.ofString "a from 1 to 2 3", Str.ofString "a To 1", Str.ofString "a = 1", Str.ofString "a from 1/0", Str.ofString "a from - to 1", Str.ofString " a"] by decide +kernel)
    rw [e1] at f1
    have cat : ∀ (l : List (List Nat)) (k : Nat), sxs (l.take k) ++ sxs (l.drop k) = sxs l := fun l k => by
      unfold sxs
      rw [← List.map_append, ← List.map_append, List.take_append_drop]
    refine ⟨_, rfl, (by show 8 ≤ sizeLine; decide), fun p2 np2 => ⟨p1, p2, _, _, rfl, rfl, (same_new np2 _) _ _ upd_same, upd_same, (by show 11 + 8 ≤ sizeLine; decide), fun p3 np3 => ?_⟩⟩
    rw [← e1, ← e2, cat] at *
    have s2 := f1.trans (same_new np2 (.lst (sxs (badT.drop 11))))
    have s3 := s2.trans (same_new np3 (.lst (sxs badT)))
    have fr : ∀ {H' : Hp} {a : Addr}, Same H H' → H' a = none → H a = none := fun s h => s.free h
    refine ⟨fun σ H' => ∃ L, Same H H' ∧ σ = [some (.ref bx), some (.str (wayS b)), some (.ref L)] ∧ H' L = some (.lst (sxs (badB b))) ∧ H L = none, ?_, ?_⟩
    · refine ⟨_, rfl, rfl, _, rfl, ?_⟩
      cases b with
      | true =>
        refine ite2 (fun c => ?_) (fun c => ?_)
        · exact absurd c (by decide +kernel)
        · exact ⟨p3, s3, rfl, upd_same, fr s2 np3⟩
      | false =>
        refine ite2 (fun c => ?_) (fun c => ?_)
        · refine ⟨(by show 8 ≤ sizeLine; decide), fun p4 np4 => ?_⟩
          have s4 := s3.trans (same_new np4 (.lst (sxs (badM.take 8))))
          rw [e3] at s4
          refine ⟨_, rfl, (by show 8 ≤ sizeLine; decide), fun p5 np5 => ⟨p4, p5, _, _, rfl, rfl, (same_new np5 _) _ _ upd_same, upd_same, (by show 8 + 8 ≤ sizeLine; decide), fun p6 np6 => ?_⟩⟩
          rw [← e3, ← e4, cat] at *
          have s5 := s4.trans (same_new np5 (.lst (sxs (badM.drop 8))))
          have s6 := s5.trans (same_new np6 (.lst (sxs badM)))
          exact ⟨p6, s6, rfl, upd_same, fr s5 np6⟩
        · exact absurd (by decide +kernel) c
    rintro σ H1 ⟨L, s1, rfl, hL, nL⟩
    have B1 := B.same s1
    have lL : (sxs (badB b)).length = (badB b).length := by rw [List.length_map, List.length_map]
    have lB : (badB b).length ≤ 19 ∧ 0 < (badB b).length := by cases b <;> decide +kernel
    refine ⟨_, rfl, _, rfl, _, rfl, L, _, rfl, .inl (SqL.of hL), bx, g, c, _, _, rfl, B1, by omega, by omega, pow8000' _ 6 (by decide) (by rw [lL]; omega), fun r H2 r0 r1 B2 b2 => ?_⟩
    obtain ⟨ne1, ne2, ne3⟩ := B.ne nL
    have hL2 := b2 L _ hL ne1 ne2
    obtain ⟨v, hv, hat⟩ := at_lt r0 r1
    obtain ⟨y, hy, rfl⟩ := List.mem_map.mp hv
    obtain ⟨l, hl, rfl⟩ := List.mem_map.mp hy
    exact ⟨L, _, r, _, rfl, rfl, SqL.of hL2, hat, q l H2 hl B2 ((But.of s1).trans b2)⟩
end

abbrev Mx := List Nat × Bool
def mD (m : Mx) : PyData := .tuple [.str (SX.S m.1), .bool m.2]
def isBad (m : Mx) : Bool := !m.2
structure MixOf (b : Bool) (ps : List (List Nat)) (ms : List Mx) : Prop where
  good : ∀ m ∈ ms, m.2 = true → m.1 ∈ ps
  bad : ∀ m ∈ ms, m.2 = false → m.1 ∈ badB b
theorem noL_m (m : Mx) : noL (mD m) = true := rfl
def spSpoilt : Sp := fun vs H Q _ => ∃ (bx g c p : Addr) (n : Nat) (b : Bool) (ps : List (List Nat)), vs = [.ref bx, .str (wayS b), .ref p] ∧ Box H bx g c n ∧ n + 20 < 1000000 ∧ H p = some (.lst (sxs ps)) ∧ p ≠ bx ∧ p ≠ g ∧ ps.length ≤ 20 ∧
  ∀ (t pl : Addr) (ms : List Mx) (H' : Hp), H' t = some (.tup [.ref pl, .int ((ms.findIdx isBad : Nat) : Int)]) → H' pl = some (.lst (sxs (ms.map (·.1)))) → MixOf b ps ms → ms.any isBad = true → ms.length ≤ ps.length + 2 → H pl = none → Box H' bx g c (n + 5) → But bx g H H' → Q (.ref t) H'
theorem g_upd {D bx g : Addr} (H : Hp) (o : HO) (db : D ≠ bx) (dg : D ≠ g) : hide D (mk bx g (upd H D o)) = hide D (mk bx g H) := funext fun a => by
  unfold hide mk
  by_cases h : a = D
  · rw [if_pos h, if_pos h]
  · rw [if_neg h, if_neg h, upd_ne h]
theorem g_but {D bx g : Addr} {H H' : Hp} (x : But bx g H H') : Same (hide D (mk bx g H)) (hide D (mk bx g H')) := hide_mono (mk_but x)
theorem g_sub (D bx g : Addr) (H : Hp) : Same (hide D (mk bx g H)) H := (hide_sub D _).trans (mk_sub bx g H)
theorem g_new {K : PySem.W.Frag} {H : Hp} {D bx g c pt : Addr} {n : Nat} {o : HO} (B : Box H bx g c n) (hD : H D = some o) (np : H pt = none) (m : Mx) : Dp K (hide D (mk bx g (upd H pt (.tup [tx m.1, .bl m.2])))) (.ref pt) (mD m) := by
  have B' := B.same (same_new np (.tup [tx m.1, .bl m.2]))
  refine .tup (SqT.of (hide_at (mk_tup B' upd_same) fun e => ?_)) (.cons (.str _) (.cons (.bl _) .nil))
  rw [e, hD] at np
  cases np
theorem dps_app {K : PySem.W.Frag} {H : Hp} : ∀ {vs us : List V} {ds es : List PyData}, DpAll K H vs ds → DpAll K H us es → DpAll K H (vs ++ us) (ds ++ es)
  | _, _, _, _, .nil, h => h
  | _, _, _, _, .cons a t, h => .cons a (dps_app t h)
theorem dps_take {K : PySem.W.Frag} {H : Hp} : ∀ (k : Nat) {vs : List V} {ds : List PyData}, DpAll K H vs ds → DpAll K H (vs.take k) (ds.take k)
  | 0, _, _, _ => by rw [List.take_zero, List.take_zero]; exact .nil
  | _ + 1, _, _, .nil => by rw [List.take_nil, List.take_nil]; exact .nil
  | k + 1, _, _, .cons a t => .cons a (dps_take k t)
theorem dps_drop {K : PySem.W.Frag} {H : Hp} : ∀ (k : Nat) {vs : List V} {ds : List PyData}, DpAll K H vs ds → DpAll K H (vs.drop k) (ds.drop k)
  | 0, _, _, h => h
  | _ + 1, _, _, .nil => by rw [List.drop_nil, List.drop_nil]; exact .nil
  | k + 1, _, _, .cons _ t => dps_drop k t
section
variable {P : Program} {w : World} {K : PySem.W.Frag} {mg : Str → Option Value} {base : Heap}
theorem ok_spoilt (T : Bt mg) (GT : Kn P w K mg base CX0 "_law_take" 2 ["_law_box_here", "_law_size"] spTake) (GB : Kn P w K mg base CX0 "_law_bad_part" 3 ["_law_box_here", "_law_way"] spBadPart) (D : Df K mg "_law_spoilt" s_l_spoilt ["_law_box_here", "_law_way", "_law_parts"]) :
    Kn P w K mg base CX0 "_law_spoilt" 4 ["_law_box_here", "_law_way", "_law_parts"] spSpoilt := by
  obtain ⟨f, fd, F, hm, hb⟩ := D
  obtain ⟨f_l_take, fd_l_take, G_l_take, m_l_take, k_l_take, b_l_take⟩ := GT
  obtain ⟨f_l_bad_part, fd_l_bad_part, G_l_bad_part, m_l_bad_part, k_l_bad_part, b_l_bad_part⟩ := GB
  refine ⟨f, fd, F.ok sc_l_spoilt (fun vs H Q E h => ?_) (fun cdv A outer s H vs Q E hr h => ?_), hm, F.kp, hb⟩
  · obtain ⟨bx, g, c, p, n, b, ps, rfl, _⟩ := h
    rfl
  · obtain ⟨bx, g, c, p, n, b, ps, rfl, B, hn, hp, pb, pg, lp, q⟩ := h
    refine ⟨_, (pss_cons (ps_setLc (i := 3) (own := [("_law_part", 5)]) rfl sc_l_spoilt.nd rfl rfl (sw_true rfl rfl rfl (by decide +kernel)) (pi_list (pv 2)) (blkOk_by (N := ["_law_box_here", "_law_way", "_law_parts", "_law_found", "_law_k", "_law_part", "_law_good"]) (sc := defScope s_l_spoilt) (by decide +kernel)) (fun _ _ _ _ _ => (pg_name (i := 5) sc_l_spoilt.nd rfl (Or.inl rfl))) (fun _ _ _ _ _ => pts_nil) (fun _ _ _ _ _ => (pe_tup (pa_cons (pv 5) (pa_cons pe_bl pa_nil)))))
      (pss_cons (ps_for PassesOwn.never rfl (pi_range1 rfl T.n_range (pa_cons (pe_op op_add pe_int (pe_call G_l_take (hr.mono (by omega)) rfl m_l_take k_l_take b_l_take .nil pass0 (pa_cons (pv 0) (pa_cons pe_int pa_nil)))) pa_nil)) (pg_name (i := 4) sc_l_spoilt.nd rfl (Or.inl rfl))
        (pss_one (ps_expr (pe_bm PySem.F.plainAttrs_list PySem.F.slot_list_insert PySem.F.type_list_insert mt_insert (pv 3) (pa_cons (pe_call G_l_take (hr.mono (by omega)) rfl m_l_take k_l_take b_l_take .nil pass0 (pa_cons (pv 0) (pa_cons (pe_op op_add (pe_callB (call_lenK (K := K) rfl) (by rfl) T.n_len (by decide +kernel) (pa_cons (pv 3) pa_nil)) pe_int) pa_nil))) (pa_cons (pe_tup (pa_cons (pe_call G_l_bad_part (hr.mono (by omega)) rfl m_l_bad_part k_l_bad_part b_l_bad_part .nil pass0 (pa_cons (pv 0) (pa_cons (pv 1) pa_nil))) (pa_cons pe_bl pa_nil))) pa_nil))))))
      (pss_one (ps_ret (pe_tup (pa_cons (pe_lc (own := [("_law_part", 5), ("_law_good", 6)]) rfl sc_l_spoilt.nd (pi_list (pv 3)) (blkOk_by (N := ["_law_box_here", "_law_way", "_law_parts", "_law_found", "_law_k", "_law_part", "_law_good"]) (sc := defScope s_l_spoilt) (by decide +kernel)) (fun _ _ _ _ _ => (pg_tupK (K := K) (n := 2) rfl (by rfl) (pgs_cons (pg_name (i := 5) sc_l_spoilt.nd rfl (Or.inl rfl)) (pgs_cons (pg_name (i := 6) sc_l_spoilt.nd rfl (Or.inl rfl)) pgs_nil)) (by rfl) (by rfl))) (fun _ _ _ _ _ => pts_nil) (fun _ _ _ _ _ => (pv 5))) (pa_cons (pe_bm PySem.F.plainAttrs_list PySem.F.slot_list_index PySem.F.type_list_index mt_index (pe_lc (own := [("_law_part", 5), ("_law_good", 6)]) rfl sc_l_spoilt.nd (pi_list (pv 3)) (blkOk_by (N := ["_law_box_here", "_law_way", "_law_parts", "_law_found", "_law_k", "_law_part", "_law_good"]) (sc := defScope s_l_spoilt) (by decide +kernel)) (fun _ _ _ _ _ => (pg_tupK (K := K) (n := 2) rfl (by rfl) (pgs_cons (pg_name (i := 5) sc_l_spoilt.nd rfl (Or.inl rfl)) (pgs_cons (pg_name (i := 6) sc_l_spoilt.nd rfl (Or.inl rfl)) pgs_nil)) (by rfl) (by rfl))) (fun _ _ _ _ _ => pts_nil) (fun _ _ _ _ _ => (pv 6))) (pa_cons pe_bl pa_nil)) pa_nil))))))), ?_⟩
    refine ⟨_, rfl, p, rfl, ⟨_, SqL.of hp⟩, fun D hD => ?_⟩
    obtain ⟨db, dg, dc⟩ := B.ne hD
    refine lc_list (K := K) (a := p) (xs := sxs ps) (fun i H' => Same H H' ∧ ∃ rs : List V, rs.length = i ∧ H' D = some (.lst rs) ∧ DpAll K (hide D (mk bx g H')) rs (((ps.take i).map fun x => (x, true)).map mD)) ⟨same_new hD _, [], rfl, upd_same, .nil⟩ (fun i H' _ h => SqL.of (h.1 _ _ hp)) ?_ ?_
    · rintro i x H2 hx ⟨s2, rs, lr, hrs, hall⟩
      rw [List.getElem?_map, List.getElem?_map] at hx
      obtain ⟨y, hy, rfl⟩ : ∃ y, ps[i]? = some y ∧ tx y = x := by
        cases z : ps[i]? with
        | none => rw [z] at hx; cases hx
        | some y => rw [z] at hx; exact ⟨y, rfl, Option.some.inj hx⟩
      have hlt := get_lt hy
      refine ⟨rfl, _, rfl, (by show 2 ≤ sizeLine; decide), fun pt np => ?_⟩
      have s3 := same_new np (.tup [tx y, .bl true])
      refine ⟨rs, s3 _ _ hrs, small1000 (by omega), same_upd (s2.trans s3) hD, rs ++ [.ref pt], by rw [List.length_append, lr]; rfl, upd_same, ?_⟩
      rw [take_more hy, List.map_append, List.map_append, g_upd _ _ db dg]
      exact dps_snoc (dps_same (g_but (But.of s3)) _ _ hall) (g_new (B.same s2) hrs np (y, true))
    · rintro H2 ⟨s2, rs, lr, hrs, hall⟩
      rw [show (sxs ps).length = ps.length by rw [List.length_map, List.length_map], List.take_length] at hall
      have lr2 : rs.length = ps.length := by rw [lr, List.length_map, List.length_map]
      have B2 := B.same s2
      refine ⟨_, rfl, bx, g, c, _, 2, rfl, B2, by omega, by decide, pow8000' 2 2 (by decide) (by decide), fun x H3 x0 x1 B3 b3 => ?_⟩
      have p62 : (2 : Int) ^ 62 = 4611686018427387904 := by decide
      refine ⟨_, _, rfl, rfl, _, rfl, by omega, by omega, ?_⟩
      refine for_range (lo := 0) (n := (1 + x).toNat) (fun i σ H' => ∃ (x4 x5 x6 : Option V) (rs : List V) (ms : List Mx), σ = [some (.ref bx), some (.str (wayS b)), some (.ref p), some (.ref D), x4, x5, x6] ∧ Box H' bx g c (n + 1 + 2 * i) ∧ But bx g H H' ∧
        H' D = some (.lst rs) ∧ DpAll K (hide D (mk bx g H')) rs (ms.map mD) ∧ MixOf b ps ms ∧ ms.length = ps.length + i ∧ (0 < i → ms.any isBad = true)) ?_ ?_ ?_
      · refine ⟨_, _, _, rs, ps.map fun x => (x, true), rfl, B3.mono (by omega), (But.of s2).trans b3, b3 _ _ hrs db dg, dps_same (g_but b3) _ _ hall, ⟨fun m hm _ => ?_, fun m hm e => ?_⟩, by rw [List.length_map]; rfl, fun z => absurd z (Nat.lt_irrefl 0)⟩
        · obtain ⟨y, hy, rfl⟩ := List.mem_map.mp hm
          exact hy
        · obtain ⟨y, hy, rfl⟩ := List.mem_map.mp hm
          cases e
      · rintro i σ H4 hi ⟨x4, x5, x6, rs, ms, rfl, B4, b4, hD4, hall4, mix, lm, _⟩
        have lrs : rs.length = ms.length := by
          have := dps_len hall4
          rw [List.length_map] at this
          exact this
        refine ⟨_, rfl, .inl ⟨rfl, _, SqL.of hD4⟩, _, rfl, _, rfl, D, _, rfl, .inl (SqL.of hD4), _, _, rfl, rfl, bx, g, c, _, _, rfl, B4, by omega, by omega, pow8000' _ 6 (by decide) (by omega), fun r H5 r0 r1 B5 b5 => ?_⟩
        refine ⟨_, rfl, _, rfl, bx, g, c, _, b, rfl, B5, by omega, fun l H6 hl B6 b6 => ?_⟩
        refine ⟨(by show 2 ≤ sizeLine; decide), fun pt np => ?_⟩
        have hD6 := b6 D _ (b5 D _ hD4 db dg) db dg
        have s7 := same_new np (.tup [tx l, .bl false])
        have hD7 := s7 _ _ hD6
        have p63 : (2 : Int) ^ 63 = 9223372036854775808 := by decide
        refine ⟨D, _, r, .ref pt, rfl, rfl, hD7, small1000 (by omega), r0, by omega, ?_⟩
        have hall7 := dps_same (g_but (b5.trans (b6.trans (But.of s7)))) _ _ hall4
        refine ⟨_, _, _, _, ms.take r.toNat ++ [(l, false)] ++ ms.drop r.toNat, rfl, ((B6.same s7).off db dg dc).mono (by omega), ?_, upd_same, ?_, ⟨fun m hm e => ?_, fun m hm e => ?_⟩, ?_, fun _ => ?_⟩
        · intro a o h h1 h2
          rw [upd_ne (ne_of_none h hD)]
          exact s7 _ _ (b6 _ _ (b5 _ _ (b4 a o h h1 h2) h1 h2) h1 h2)
        · rw [g_upd _ _ db dg, List.map_append, List.map_append, List.map_take, List.map_drop]
          exact dps_app (dps_app (dps_take _ hall7) (.cons (g_new B6 hD6 np (l, false)) .nil)) (dps_drop _ hall7)
        · rcases List.mem_append.mp hm with hm | hm
          · rcases List.mem_append.mp hm with hm | hm
            · exact mix.good m (List.mem_of_mem_take hm) e
            · rw [List.mem_singleton.mp hm] at e
              cases e
          · exact mix.good m (List.mem_of_mem_drop hm) e
        · rcases List.mem_append.mp hm with hm | hm
          · rcases List.mem_append.mp hm with hm | hm
            · exact mix.bad m (List.mem_of_mem_take hm) e
            · rw [List.mem_singleton.mp hm]
              exact hl
          · exact mix.bad m (List.mem_of_mem_drop hm) e
        · rw [List.length_append, List.length_append, List.length_take, List.length_drop, List.length_singleton]
          omega
        · rw [List.any_append, List.any_append]
          show (_ || (isBad (l, false) || false) || _) = true
          rw [show isBad (l, false) = true from rfl, Bool.true_or, Bool.or_true, Bool.true_or]
      · rintro σ H4 ⟨x4, x5, x6, rs, ms, rfl, B4, b4, hD4, hall4, mix, lm, hany⟩
        have hb1 := hany (by omega)
        have hallH := dps_same (g_sub D bx g H4) _ _ hall4
        have lrs : rs.length = ms.length := by
          have := dps_len hallH
          rw [List.length_map] at this
          exact this
        have item : ∀ (i : Nat) (x : V), rs[i]? = some x → ∃ m pb, ms[i]? = some m ∧ i < ms.length ∧ x = .ref pb ∧ SqT K H4 pb [tx m.1, .bl m.2] := fun i x hx => by
          obtain ⟨dt, hdt, hdx⟩ := dps_get hallH hx
          rw [List.getElem?_map] at hdt
          obtain ⟨m, hm, rfl⟩ : ∃ m, ms[i]? = some m ∧ mD m = dt := by
            cases z : ms[i]? with
            | none => rw [z] at hdt; cases hdt
            | some m => rw [z] at hdt; exact ⟨m, rfl, Option.some.inj hdt⟩
          cases hdx with
          | @tup pb xs_ _ hsq hal =>
            cases hal with
            | cons h1 hal =>
              cases hal with
              | cons h2 hal =>
                cases hal
                cases h1
                cases h2
                exact ⟨m, pb, hm, get_lt hm, rfl, hsq⟩
        have nH : ∀ {H' : Hp} {a : Addr}, Same H4 H' → H' a = none → H a = none := fun {H'} {a} s h => by
          cases z : H a with
          | none => rfl
          | some o =>
            by_cases e1 : a = bx
            · obtain ⟨gs, cs, cur, m, BI, _⟩ := B4.same s
              rw [e1, BI.hb] at h
              cases h
            · by_cases e2 : a = g
              · obtain ⟨gs, cs, cur, m, BI, _⟩ := B4.same s
                rw [e2, BI.hg] at h
                cases h
              · rw [s _ _ (b4 a o z e1 e2)] at h
                cases h
        have lms : ms.length ≤ 22 := by omega
        refine ⟨_, rfl, D, rfl, ⟨_, SqL.of hD4⟩, fun P1 hP1 => ?_⟩
        refine lc_list (K := K) (a := D) (xs := rs) (fun i H' => Same H4 H' ∧ H' P1 = some (.lst (sxs ((ms.take i).map (·.1))))) ⟨same_new hP1 _, upd_same⟩ (fun i H' _ h => SqL.of (h.1 _ _ hD4)) ?_ ?_
        · rintro i x H5 hx ⟨s5, hl⟩
          obtain ⟨m, pb, hm, hi, rfl, hsq⟩ := item i x hx
          refine ⟨pb, _, rfl, same_seqT s5 hsq, rfl, _, _, rfl, _, _, rfl, rfl, rfl, _, rfl, _, hl, ?_, same_upd s5 hP1, ?_⟩
          · rw [List.length_map, List.length_map, List.length_map]
            exact small1000 (by rw [List.length_take]; omega)
          · rw [upd_same, take_more hm, List.map_append, show List.map (fun x : Mx => x.1) [m] = [m.1] from rfl, sxs_snoc]
        · rintro H5 ⟨s5, hl5⟩
          rw [lrs, List.take_length] at hl5
          refine ⟨_, rfl, D, rfl, ⟨_, SqL.of (s5 _ _ hD4)⟩, fun P2 hP2 => ?_⟩
          refine lc_list (K := K) (a := D) (xs := rs) (fun i H' => Same H5 H' ∧ H' P2 = some (.lst ((ms.take i).map fun m => V.bl m.2))) ⟨same_new hP2 _, upd_same⟩ (fun i H' _ h => SqL.of (h.1 _ _ (s5 _ _ hD4))) ?_ ?_
          · rintro i x H6 hx ⟨s6, hl⟩
            obtain ⟨m, pb, hm, hi, rfl, hsq⟩ := item i x hx
            refine ⟨pb, _, rfl, same_seqT (s5.trans s6) hsq, rfl, _, _, rfl, _, _, rfl, rfl, rfl, _, rfl, _, hl, ?_, same_upd s6 hP2, ?_⟩
            · rw [List.length_map]
              exact small1000 (by rw [List.length_take]; omega)
            · rw [upd_same, take_more hm, List.map_append]
              rfl
          · rintro H6 ⟨s6, hl6⟩
            rw [lrs, List.take_length] at hl6
            have hlt := List.findIdx_lt_length_of_exists (xs := ms) (p := isBad) (List.any_eq_true.mp hb1)
            refine ⟨.inl ⟨rfl, _, SqL.of hl6⟩, P2, _, .bl false, ms.findIdx isBad, .bl false, rfl, rfl, SqL.of hl6, rfl, ?_, ?_, rfl, fun k z' hk hz' => ?_, (by show 2 ≤ sizeLine; decide), fun t nt => ?_⟩
            · rw [List.all_map, List.all_eq_true]
              exact fun m _ => rfl
            · rw [List.getElem?_map, List.getElem?_eq_getElem hlt]
              have z := List.findIdx_getElem (xs := ms) (p := isBad) (w := hlt)
              generalize ms[ms.findIdx isBad] = m at z
              obtain ⟨l, v⟩ := m
              cases v with
              | true => cases z
              | false => rfl
            · rw [List.getElem?_map] at hz'
              cases w : ms[k]? with
              | none => rw [w] at hz'; cases hz'
              | some m =>
                rw [w] at hz'
                cases hz'
                obtain ⟨hm2, rfl⟩ := List.getElem?_eq_some_iff.mp w
                have z := List.not_of_lt_findIdx hk
                generalize ms[k] = m at z
                obtain ⟨l, v⟩ := m
                cases v with
                | true => rfl
                | false => cases z
            · have s7 := same_new nt (.tup [.ref P1, .int ((ms.findIdx isBad : Nat) : Int)])
              have s47 := s5.trans (s6.trans s7)
              exact q t P1 ms _ upd_same (s7 _ _ (s6 _ _ hl5)) mix hb1 (by omega) (nH (Same.refl _) hP1) ((B4.same s47).mono (by omega)) (b4.trans (But.of s47))
end

theorem bad_ok (b : Bool) : ∀ l ∈ badB b, isNo (rdB b l) = true ∧ 44 ∉ l ∧ l.length ≤ 20 ∧ l.all (fun c => decide (c < 128)) = true := by
  cases b
  · show ∀ l ∈ badM, isNo (readM l) = true ∧ 44 ∉ l ∧ l.length ≤ 20 ∧ l.all (fun c => decide (c < 128)) = true
    decide +kernel
  · show ∀ l ∈ badT, isNo (readE l) = true ∧ 44 ∉ l ∧ l.length ≤ 20 ∧ l.all (fun c => decide (c < 128)) = true
    decide +kernel
theorem asc_of {l : List Nat} (h : l.all (fun c => decide (c < 128)) = true) : Asc l := fun c hc => of_decide_eq_true (List.all_eq_true.mp h c hc)
/-- a part that can be read -/
structure Part (b : Bool) (x : List Nat) (d : PyData) : Prop where
  no : 44 ∉ x
  len : x.length ≤ 100
  asc : Asc x
  rd : rdB b x = some d
theorem found_bad {b : Bool} {ps : List (List Nat)} {ms : List Mx} (hp : ∀ x ∈ ps, ∃ d, Part b x d) (mix : MixOf b ps ms) (h : ms.any isBad = true) : foundD ((ms.map (·.1)).map (rdB b)) = .tuple [.str "bad", .int ((ms.findIdx isBad : Nat) : Int)] := by
  have same : ∀ m ∈ ms, isNo (rdB b m.1) = isBad m := fun m hm => by
    cases e : m.2 with
    | true =>
      obtain ⟨d, hd⟩ := hp m.1 (mix.good m hm e)
      rw [hd.rd]
      unfold isBad
      rw [e]
      rfl
    | false =>
      rw [(bad_ok b m.1 (mix.bad m hm e)).1]
      unfold isBad
      rw [e]
      rfl
  have e1 : ∀ l : List Mx, (∀ m ∈ l, isNo (rdB b m.1) = isBad m) → (((l.map (·.1)).map (rdB b)).any isNo = l.any isBad) ∧ ((l.map (·.1)).map (rdB b)).findIdx isNo = l.findIdx isBad := by
    intro l
    induction l with
    | nil => exact fun _ => ⟨rfl, rfl⟩
    | cons m l ih =>
      intro hl
      have h1 := hl m (List.mem_cons_self ..)
      have h2 := ih fun k hk => hl k (List.mem_cons_of_mem _ hk)
      rw [List.map_cons, List.map_cons, List.any_cons, List.any_cons, List.findIdx_cons, List.findIdx_cons, h1, h2.1, h2.2]
      exact ⟨rfl, rfl⟩
  unfold foundD
  rw [(e1 ms same).1, (e1 ms same).2, if_pos h]
theorem joinL_len {ps : List (List Nat)} {n : Nat} (h : ∀ p ∈ ps, p.length ≤ 100) (hn : ps.length ≤ n) (hm : 102 * n ≤ 4000) : (TL.joinL [44, 32] ps).length ≤ 4000 := by
  have key : ∀ qs : List (List Nat), (∀ p ∈ qs, p.length ≤ 100) → (TL.joinL [44, 32] qs).length ≤ 102 * qs.length := by
    intro qs
    induction qs with
    | nil => exact fun _ => Nat.le_refl _
    | cons q qs ih =>
      intro hq
      have h1 := hq q (List.mem_cons_self ..)
      have h2 := ih fun p hp => hq p (List.mem_cons_of_mem _ hp)
      cases qs with
      | nil =>
        show q.length ≤ _
        rw [List.length_cons]
        omega
      | cons r qs =>
        rw [joinL_two, List.length_append, List.length_append]
        show q.length + 2 + _ ≤ 102 * ((r :: qs).length + 1)
        omega
  have := key ps h
  omega
def spBent91 : Sp := fun vs H Q _ => ∃ (bx g c p : Addr) (n : Nat) (b : Bool) (ps : List (List Nat)), vs = [.ref bx, .str (wayS b), .ref p] ∧ Box H bx g c n ∧ n + 20 < 1000000 ∧ H p = some (.lst (sxs ps)) ∧ p ≠ bx ∧ p ≠ g ∧ ps.length ≤ 20 ∧ (∀ x ∈ ps, ∃ d, Part b x d) ∧
  ∀ H', Box H' bx g c (n + 5) → But bx g H H' → Q (.bl true) H'
section
variable {P : Program} {w : World} {K : PySem.W.Frag} {mg : Str → Option Value} {base : Heap}
theorem ok_bent_right (GS : Kn P w K mg base CX0 "_law_spoilt" 4 ["_law_box_here", "_law_way", "_law_parts"] spSpoilt) (GR : Kn P w K mg base CX0 "_law_reading" 8 ["_law_way", "_law_text"] (spReading K))
    (D : Df K mg "_law_bent_right" s_l_bent_right ["_law_box_here", "_law_way", "_law_parts"]) : Kn P w K mg base CX0 "_law_bent_right" 9 ["_law_box_here", "_law_way", "_law_parts"] spBent91 := by
  obtain ⟨f, fd, F, hm, hb⟩ := D
  obtain ⟨f_l_spoilt, fd_l_spoilt, G_l_spoilt, m_l_spoilt, k_l_spoilt, b_l_spoilt⟩ := GS
  obtain ⟨f_l_reading, fd_l_reading, G_l_reading, m_l_reading, k_l_reading, b_l_reading⟩ := GR
  refine ⟨f, fd, F.ok sc_l_bent_right (fun vs H Q E h => ?_) (fun cdv A outer s H vs Q E hr h => ?_), hm, F.kp, hb⟩
  · obtain ⟨bx, g, c, p, n, b, ps, rfl, _⟩ := h
    rfl
  · obtain ⟨bx, g, c, p, n, b, ps, rfl, B, hn, hp, pb, pg, lp, hps, q⟩ := h
    refine ⟨_, (pss_cons (ps_asg (pe_call G_l_spoilt (hr.mono (by omega)) rfl m_l_spoilt k_l_spoilt b_l_spoilt .nil pass0 (pa_cons (pv 0) (pa_cons (pv 1) (pa_cons (pv 2) pa_nil)))) (pg_tup (by rfl) (pgs_cons (pg_name (i := 3) sc_l_bent_right.nd rfl (Or.inl rfl)) (pgs_cons (pg_name (i := 4) sc_l_bent_right.nd rfl (Or.inl rfl)) pgs_nil))))
      (pss_cons (ps_if (pt_cmpR (op_eqD hr.units) (pv 3) (pe_lst (pa_cons pe_str pa_nil)) (nomark _)) (pss_one (ps_ret (pe_cmpR (op_eqD hr.units) (pe_call G_l_reading (hr.mono (by omega)) rfl m_l_reading k_l_reading b_l_reading .nil pass0 (pa_cons (pv 1) (pa_cons pe_str pa_nil))) (pe_tup (pa_cons pe_str (pa_cons (pe_tup pa_nil) pa_nil))) (nomark _)))) pss_nil)
      (pss_one (ps_ret (pe_cmpR (op_eqD hr.units) (pe_call G_l_reading (hr.mono (by omega)) rfl m_l_reading k_l_reading b_l_reading .nil pass0 (pa_cons (pv 1) (pa_cons (pe_bm PySem.F.plainAttrs_str PySem.F.slot_str_join PySem.F.type_str_join mt_join pe_str (pa_cons (pv 3) pa_nil)) pa_nil))) (pe_tup (pa_cons pe_str (pa_cons (pv 4) pa_nil))) (nomark _)))))), ?_⟩
    refine ⟨_, rfl, _, rfl, _, rfl, bx, g, c, p, n, b, ps, rfl, B, hn, hp, pb, pg, lp, fun t pl ms H1 ht hpl mix hany lm _ B1 b1 => ?_⟩
    have q9 : ∀ H', Same H1 H' → Q (.bl true) H' := fun H' s => q H' (B1.same s) (b1.trans (But.of s))
    refine ⟨t, _, rfl, SqT.of ht, rfl, _, _, rfl, _, _, rfl, rfl, ?_⟩
    have each : ∀ x ∈ ms.map (·.1), 44 ∉ x ∧ x.length ≤ 100 ∧ Asc x := fun x hx => by
      obtain ⟨m, hm, rfl⟩ := List.mem_map.mp hx
      cases e : m.2 with
      | true =>
        obtain ⟨d, hd⟩ := hps m.1 (mix.good m hm e)
        exact ⟨hd.no, hd.len, hd.asc⟩
      | false =>
        have z := bad_ok b m.1 (mix.bad m hm e)
        exact ⟨z.2.1, by omega, asc_of z.2.2.2⟩
    have found := found_bad hps mix hany
    have lq : (ms.map (·.1)).length ≤ 22 := by rw [List.length_map]; omega
    generalize ms.map (·.1) = qs at *
    have emp : Str.ofString "" = SX.S [] := by decide +kernel
    have sep : Str.ofString ", " = SX.S [44, 32] := by decide +kernel
    have hdq : Dp K H1 (.ref pl) (strD (qs.map SX.S)) := .lst (SqL.of hpl) (dps_strs _ _)
    have hsq : SeqAt.shaped (strD (qs.map SX.S)) = true := (fine.lst (n := 0) fun d hd => by
      obtain ⟨o, ho, rfl⟩ := List.mem_map.mp hd
      obtain ⟨l, hl, rfl⟩ := List.mem_map.mp ho
      exact fine_str (strS (each l hl).2.2)).shp (by decide)
    have fine_bad : ∀ k : Int, fine 1 (.tuple [.str "bad", .int k]) := fun k => fine.tup fun d hd => by
      simp only [List.mem_cons, List.not_mem_nil, or_false] at hd
      rcases hd with rfl | rfl
      · exact fine_str (by decide +kernel)
      · exact fine_int _
    have fine_read : fine 2 (.tuple [.str "read", .tuple []]) := fine.tup fun d hd => by
      simp only [List.mem_cons, List.not_mem_nil, or_false] at hd
      rcases hd with rfl | rfl
      · exact (fine_str (by decide +kernel)).mono (by decide)
      · exact fine.tup fun d hd => by cases hd
    refine ⟨_, rfl, (by show 1 ≤ sizeLine; decide), fun p1 np1 => ?_⟩
    have t1 := same_new np1 (.lst [V.str ""])
    refine ⟨strD (qs.map SX.S), strD [Str.ofString ""], dp_same t1 _ _ hdq, .lst (SqL.of upd_same) (.cons (.str _) .nil), hsq, (by decide +kernel), _, rfl, ?_⟩
    have ee := strs_eq (M := qs) (N := [[]]) (ss := [Str.ofString ""]) (by decide +kernel)
    refine ite2 (fun c1 => ?_) (fun c1 => ?_)
    · refine ⟨_, rfl, b, [], by rw [emp]; rfl, by decide, (fun x hx => by cases hx), by decide, fun r H2 s2 hr2 => ?_⟩
      refine ⟨(by show 0 ≤ sizeLine; decide), fun p2 np2 => ⟨(by show 2 ≤ sizeLine; decide), fun p3 np3 => ?_⟩⟩
      have s3 := same_new np3 (.tup [V.str "read", .ref p2])
      have s23 := (same_new np2 (.tup [])).trans s3
      refine ⟨_, .tuple [.str "read", .tuple []], dp_same s23 _ _ hr2, .tup (SqT.of upd_same) (.cons (.str _) (.cons (.tup (SqT.of (s3 _ _ upd_same)) .nil) .nil)), fine_read.shp (by decide), fine_read.shp (by decide), ?_⟩
      rw [show PyData.eqv (foundD ((partsL []).map (rdB b))) (.tuple [.str "read", .tuple []]) = true from fine_read.self]
      exact q9 _ (t1.trans (s2.trans s23))
    · have ne : qs ≠ [[]] := fun e => c1 (ee.trans (decide_eq_true e))
      have back := parts_join (fun x hx => (each x hx).1) ne
      have lj : (TL.joinL [44, 32] qs).length ≤ 4000 := joinL_len (n := 22) (fun x hx => (each x hx).2.1) lq (by decide)
      refine ⟨_, rfl, rfl, _, rfl, _, pl, qs.map SX.S, rfl, rfl, .inl (SqL.of (t1 _ _ hpl)), sum_fit (n := 22) (fun x hx => (each x hx).2.1) lq (by decide +kernel), ?_⟩
      rw [sep, SX.join_S]
      refine ⟨b, TL.joinL [44, 32] qs, rfl, lj, (by rw [back]; exact fun x hx => (each x hx).2), (by rw [back]; omega), fun r H2 s2 hr2 => ?_⟩
      rw [back, found] at hr2
      refine ⟨_, rfl, (by show 2 ≤ sizeLine; decide), fun p3 np3 => ?_⟩
      have s3 := same_new np3 (.tup [V.str "bad", .int ((ms.findIdx isBad : Nat) : Int)])
      refine ⟨_, .tuple [.str "bad", .int ((ms.findIdx isBad : Nat) : Int)], dp_same s3 _ _ hr2, .tup (SqT.of upd_same) (.cons (.str _) (.cons (.int _) .nil)), (fine_bad _).shp (by decide), (fine_bad _).shp (by decide), ?_⟩
      rw [(fine_bad _).self]
      exact q9 _ (t1.trans (s2.trans s3))
end

def spBefore (K : PySem.W.Frag) : Sp := fun vs H Q _ => ∃ (u v : V) (y z : Int × Int), vs = [u, v] ∧ Dp K H u (rat y.1 y.2) ∧ Dp K H v (rat z.1 z.2) ∧ Few y ∧ Few z ∧ ∀ k, Q (.bl k) H
def spLimitOf (K : PySem.W.Frag) : Sp := fun vs H Q _ => ∃ (bx g c : Addr) (n : Nat) (x : List Nat), vs = [.ref bx, tx x] ∧ Box H bx g c n ∧ n + 20 < 1000000 ∧
  ∀ (r : V) (lo hi : OZ) (H' : Hp), FewO lo → FewO hi → Dp K (mk bx g H') r (limD x (lo, hi)) → Box H' bx g c (n + 13) → But bx g H H' → Q r H'
section
variable {P : Program} {w : World} {K : PySem.W.Frag} {mg : Str → Option Value} {base : Heap}
theorem ok_before (D : Df K mg "_law_before" s_l_before ["_law_one", "_law_other"]) : Kn P w K mg base CX0 "_law_before" 1 ["_law_one", "_law_other"] (spBefore K) := by
  obtain ⟨f, fd, F, hm, hb⟩ := D
  refine ⟨f, fd, F.ok sc_l_before (fun vs H Q E h => ?_) (fun cdv A outer s H vs Q E hr h => ?_), hm, F.kp, hb⟩
  · obtain ⟨u, v, y, z, rfl, _⟩ := h
    rfl
  · obtain ⟨u, v, y, z, rfl, hu, hv, fy, fz, q⟩ := h
    refine ⟨_, (pss_one (ps_ret (pe_cmpR op_lt (pe_op op_mul (pe_ix ix_tup (pv 0) pe_int (fun _ _ => rfl)) (pe_ix ix_tup (pv 1) pe_int (fun _ _ => rfl))) (pe_op op_mul (pe_ix ix_tup (pv 1) pe_int (fun _ _ => rfl)) (pe_ix ix_tup (pv 0) pe_int (fun _ _ => rfl))) (nomark _)))), ?_⟩
    have sq : ∀ {v : V} {z : Int × Int}, Dp K H v (rat z.1 z.2) → ∃ p, v = .ref p ∧ SqT K H p [.int z.1, .int z.2] := fun {v z} hv => by
      cases hv with
      | @tup pn xs_ _ hsq hal =>
        cases hal with
        | cons h0 hal =>
          cases hal with
          | cons h1 hal =>
            cases hal
            cases h0
            cases h1
            exact ⟨pn, rfl, hsq⟩
    obtain ⟨pu, rfl, su⟩ := sq hu
    obtain ⟨pv, rfl, sv⟩ := sq hv
    have cm : ∀ (i j : Int), i.natAbs < 2 ^ 40 → CMul i j := fun i j h => by
      have h : i.natAbs < 1099511627776 := h
      exact .inl ⟨by show -18446744073709551616 < i; omega, by show i < 18446744073709551616; omega⟩
    exact ⟨_, rfl, pu, _, _, .int y.1, rfl, rfl, su, rfl, _, rfl, pv, _, _, .int z.2, rfl, rfl, sv, rfl, _, _, rfl, rfl, cm _ _ fy.2.1, _, rfl, pv, _, _, .int z.1, rfl, rfl, sv, rfl, _, rfl, pu, _, _, .int y.2, rfl, rfl, su, rfl, _, _, rfl, rfl, cm _ _ fz.2.1, _, _, rfl, rfl, q _⟩
theorem ok_limit_of (GT : Kn P w K mg base CX0 "_law_take" 2 ["_law_box_here", "_law_size"] spTake) (GN : Kn P w K mg base CX0 "_law_number" 3 ["_law_box_here"] (spNumK 40 6)) (GB : Kn P w K mg base CX0 "_law_before" 1 ["_law_one", "_law_other"] (spBefore K))
    (D : Df K mg "_law_limit_of" s_l_limit_of ["_law_box_here", "_law_name"]) : Kn P w K mg base CX0 "_law_limit_of" 4 ["_law_box_here", "_law_name"] (spLimitOf K) := by
  obtain ⟨f, fd, F, hm, hb⟩ := D
  obtain ⟨f_l_take, fd_l_take, G_l_take, m_l_take, k_l_take, b_l_take⟩ := GT
  obtain ⟨f_l_number, fd_l_number, G_l_number, m_l_number, k_l_number, b_l_number⟩ := GN
  obtain ⟨f_l_before, fd_l_before, G_l_before, m_l_before, k_l_before, b_l_before⟩ := GB
  refine ⟨f, fd, F.ok sc_l_limit_of (fun vs H Q E h => ?_) (fun cdv A outer s H vs Q E hr h => ?_), hm, F.kp, hb⟩
  · obtain ⟨bx, g, c, n, x, rfl, _⟩ := h
    rfl
  · obtain ⟨bx, g, c, n, x, rfl, B, hn, q⟩ := h
    refine ⟨_, (pss_cons (ps_par (i := 2) (j := 3) (by rfl) sc_l_limit_of.nd rfl rfl (by decide) rfl rfl (pa_cons (pe_call G_l_number (hr.mono (by omega)) rfl m_l_number k_l_number b_l_number .nil pass0 (pa_cons (pv 0) pa_nil)) (pa_cons (pe_call G_l_number (hr.mono (by omega)) rfl m_l_number k_l_number b_l_number .nil pass0 (pa_cons (pv 0) pa_nil)) pa_nil)) (by rfl))
      (C8.pss_cut (ps_if (pt_val (pe_call G_l_before (hr.mono (by omega)) rfl m_l_before k_l_before b_l_before .nil pass0 (pa_cons (pv 3) (pa_cons (pv 2) pa_nil)))) (pss_one (ps_par (i := 2) (j := 3) (by rfl) sc_l_limit_of.nd rfl rfl (by decide) rfl rfl (pa_cons (pv 3) (pa_cons (pv 2) pa_nil)) (by rfl))) pss_nil)
      (pss_cons (ps_set (i := 4) sc_l_limit_of.nd rfl (Or.inl rfl) (pe_ix ix_list (pe_lst (pa_cons (pe_tup (pa_cons pe_non (pa_cons pe_non pa_nil))) (pa_cons (pe_tup (pa_cons (pv 2) (pa_cons pe_non pa_nil))) (pa_cons (pe_tup (pa_cons pe_non (pa_cons (pv 3) pa_nil))) (pa_cons (pe_tup (pa_cons (pv 2) (pa_cons (pv 3) pa_nil))) (pa_cons (pe_tup (pa_cons (pv 2) (pa_cons (pv 2) pa_nil))) pa_nil)))))) (pe_call G_l_take (hr.mono (by omega)) rfl m_l_take k_l_take b_l_take .nil pass0 (pa_cons (pv 0) (pa_cons pe_int pa_nil))) (fun _ _ => rfl)))
      (pss_one (ps_ret (pe_tup (pa_cons (pv 1) (pa_cons (pe_ix ix_tup (pv 4) pe_int (fun _ _ => rfl)) (pa_cons (pe_ix ix_tup (pv 4) pe_int (fun _ _ => rfl)) pa_nil))))))))), ?_⟩
    refine ⟨_, rfl, bx, g, c, n, rfl, B, by omega, fun p1 z1 H1 red1 sz1 h1 B1 b1 => ?_⟩
    refine ⟨_, rfl, bx, g, c, _, rfl, B1, by omega, fun p2 z2 H2 red2 sz2 h2 B2 b2 => ?_⟩
    refine ⟨_, _, rfl, ?_⟩
    have d1 : Dp K (mk bx g H2) (.ref p1) (rat z1.1 z1.2) := dp_same (mk_but b2) _ _ (dp_rat (mk_tup B1 h1))
    have d2 : Dp K (mk bx g H2) (.ref p2) (rat z2.1 z2.2) := dp_rat (mk_tup B2 h2)
    refine ⟨fun σ H' => H2 = H' ∧ ∃ (u v : V) (y z : Int × Int), σ = [some (.ref bx), some (tx x), some u, some v, none] ∧ Dp K (mk bx g H2) u (rat y.1 y.2) ∧ Dp K (mk bx g H2) v (rat z.1 z.2) ∧ Few y ∧ Few z, ?_, ?_⟩
    · refine ⟨_, rfl, _, rfl, .ref p2, .ref p1, z2, z1, rfl, dp_same (mk_sub _ _ _) _ _ d2, dp_same (mk_sub _ _ _) _ _ d1, ⟨red2, sz2⟩, ⟨red1, sz1⟩, fun k => ⟨_, rfl, ?_⟩⟩
      refine ite2 (fun _ => ?_) (fun _ => ?_)
      · exact ⟨_, rfl, _, rfl, _, _, rfl, rfl, _, _, z2, z1, rfl, d2, d1, ⟨red2, sz2⟩, ⟨red1, sz1⟩⟩
      · exact ⟨rfl, _, _, z1, z2, rfl, d1, d2, ⟨red1, sz1⟩, ⟨red2, sz2⟩⟩
    rintro σ H3 ⟨rfl, u, v, y, z, rfl, du, dv, fy, fz⟩
    refine ⟨(by show 2 ≤ sizeLine; decide), fun q0 n0 => ?_⟩
    have s0 := same_new n0 (.tup [.non, .non])
    refine ⟨_, rfl, (by show 2 ≤ sizeLine; decide), fun q1 n1 => ?_⟩
    have s1 := same_new n1 (.tup [u, .non])
    refine ⟨_, rfl, (by show 2 ≤ sizeLine; decide), fun q2 n2 => ?_⟩
    have s2 := same_new n2 (.tup [.non, v])
    refine ⟨_, rfl, _, rfl, (by show 2 ≤ sizeLine; decide), fun q3 n3 => ?_⟩
    have s3 := same_new n3 (.tup [u, v])
    refine ⟨_, rfl, _, rfl, (by show 2 ≤ sizeLine; decide), fun q4 n4 => ?_⟩
    have s4 := same_new n4 (.tup [u, u])
    refine ⟨(by show 5 ≤ sizeLine; decide), fun L nL => ?_⟩
    have s5 := same_new nL (.lst [.ref q0, .ref q1, .ref q2, .ref q3, .ref q4])
    have s05 := s0.trans (s1.trans (s2.trans (s3.trans (s4.trans s5))))
    refine ⟨_, rfl, bx, g, c, _, 5, rfl, B2.same s05, by omega, by decide, pow8000' 5 3 (by decide) (by decide), fun r H6 r0 r1 B6 b6 => ?_⟩
    have B5 := B2.same (s0.trans (s1.trans (s2.trans (s3.trans s4))))
    obtain ⟨lb, lg, lc⟩ := B5.ne nL
    have hL6 := b6 L _ upd_same lb lg
    have bt : But bx g H2 H6 := (But.of s05).trans b6
    have keep : ∀ {q : Addr} {xs : List V}, (upd (upd (upd (upd (upd (upd H2 q0 (.tup [.non, .non])) q1 (.tup [u, .non])) q2 (.tup [.non, v])) q3 (.tup [u, v])) q4 (.tup [u, u])) L (.lst [.ref q0, .ref q1, .ref q2, .ref q3, .ref q4])) q = some (.tup xs) → H6 q = some (.tup xs) := fun {q xs} h =>
      mk_sub _ _ _ _ _ (mk_but b6 _ _ (mk_tup (B2.same s05) h))
    obtain ⟨w, hw, hat⟩ := at_pick hL6 r0 r1 rfl
    have du6 := dp_same (mk_but bt) _ _ du
    have dv6 := dp_same (mk_but bt) _ _ dv
    have pick : ∃ (lo hi : OZ) (a b : V) (q : Addr), FewO lo ∧ FewO hi ∧ w = .ref q ∧ H6 q = some (.tup [a, b]) ∧ Dp K (mk bx g H6) a (zD lo) ∧ Dp K (mk bx g H6) b (zD hi) := by
      simp only [List.mem_cons, List.not_mem_nil, or_false] at hw
      rcases hw with rfl | rfl | rfl | rfl | rfl
      · exact ⟨none, none, _, _, q0, trivial, trivial, rfl, keep (s5 _ _ (s4 _ _ (s3 _ _ (s2 _ _ (s1 _ _ upd_same))))), .non, .non⟩
      · exact ⟨some y, none, _, _, q1, fy, trivial, rfl, keep (s5 _ _ (s4 _ _ (s3 _ _ (s2 _ _ upd_same)))), du6, .non⟩
      · exact ⟨none, some z, _, _, q2, trivial, fz, rfl, keep (s5 _ _ (s4 _ _ (s3 _ _ upd_same))), .non, dv6⟩
      · exact ⟨some y, some z, _, _, q3, fy, fz, rfl, keep (s5 _ _ (s4 _ _ upd_same)), du6, dv6⟩
      · exact ⟨some y, some y, _, _, q4, fy, fy, rfl, keep (s5 _ _ upd_same), du6, du6⟩
    obtain ⟨lo, hi, a, b, qv, flo, fhi, rfl, hq, da, db⟩ := pick
    refine ⟨L, _, r, _, rfl, rfl, SqL.of hL6, hat, ?_⟩
    refine ⟨_, rfl, _, rfl, qv, _, _, a, rfl, rfl, SqT.of hq, rfl, _, rfl, qv, _, _, b, rfl, rfl, SqT.of hq, rfl, (by show 3 ≤ sizeLine; decide), fun p5 np5 => ?_⟩
    have s6 := same_new np5 (.tup [tx x, a, b])
    refine q _ lo hi _ flo fhi ?_ ((B6.same s6).mono (by omega)) ((b1.trans b2).trans (bt.trans (But.of s6)))
    have m6 := mk_but (b := bx) (g := g) (But.of s6)
    exact .tup (SqT.of (mk_tup (B6.same s6) upd_same)) (.cons (.str _) (.cons (dp_same m6 _ _ da) (.cons (dp_same m6 _ _ db) .nil)))
end

theorem ix_listK {X : Cx} {K : PySem.W.Frag} (h : X.K = K) : IxR X (rIxL K) := by
  subst h
  exact ix_list
theorem getD_of {α : Type} {l : List α} {i : Nat} (h : i < l.length) (d : α) : l[i]? = some (l.getD i d) := by
  rw [List.getD_eq_getElem?_getD, List.getElem?_eq_getElem h]
  rfl
def spTold (K : PySem.W.Frag) : Sp := fun vs H Q _ => ∃ (bx g c sa p : Addr) (n : Nat) (b : Bool) (rs : List V) (ds : List PyData) (ps : List (List Nat)), vs = [.ref bx, .str (wayS b), .ref sa, .ref p] ∧ Box H bx g c n ∧ n + 20 < 1000000 ∧
  H sa = some (.lst rs) ∧ sa ≠ bx ∧ sa ≠ g ∧ H p = some (.lst (sxs ps)) ∧ p ≠ bx ∧ p ≠ g ∧ ps.length ≤ 20 ∧ DpAll K (mk bx g H) rs ds ∧ ds.length = ps.length ∧ (∀ (i : Nat) (x : List Nat) (d : PyData), ps[i]? = some x → ds[i]? = some d → Part b x d ∧ fine 2 d) ∧
  ∀ H', Box H' bx g c (n + 7) → But bx g H H' → Q (.bl true) H'
section
variable {P : Program} {w : World} {K : PySem.W.Frag} {mg : Str → Option Value} {base : Heap}
theorem ok_told_again (T : Bt mg) (GT : Kn P w K mg base CX0 "_law_take" 2 ["_law_box_here", "_law_size"] spTake) (GR : Kn P w K mg base CX0 "_law_reading" 8 ["_law_way", "_law_text"] (spReading K))
    (D : Df K mg "_law_told_again" s_l_told_again ["_law_box_here", "_law_way", "_law_some", "_law_parts"]) : Kn P w K mg base CX0 "_law_told_again" 9 ["_law_box_here", "_law_way", "_law_some", "_law_parts"] (spTold K) := by
  obtain ⟨f, fd, F, hm, hb⟩ := D
  obtain ⟨f_l_take, fd_l_take, G_l_take, m_l_take, k_l_take, b_l_take⟩ := GT
  obtain ⟨f_l_reading, fd_l_reading, G_l_reading, m_l_reading, k_l_reading, b_l_reading⟩ := GR
  refine ⟨f, fd, F.ok sc_l_told_again (fun vs H Q E h => ?_) (fun cdv A outer s H vs Q E hr h => ?_), hm, F.kp, hb⟩
  · obtain ⟨bx, g, c, sa, p, n, b, rs, ds, ps, rfl, _⟩ := h
    rfl
  · obtain ⟨bx, g, c, sa, p, n, b, rs, ds, ps, rfl, B, hn, hs, sb, sg, hp, pb, pg, lp, hall, ld, hpart, q⟩ := h
    refine ⟨_, (pss_cons (ps_setLc (i := 4) (own := [("_law_k", 6)]) rfl sc_l_told_again.nd rfl rfl (sw_true rfl rfl rfl (by decide +kernel)) (pi_range1 rfl T.n_range (pa_cons (pe_op op_mul (pe_call G_l_take (hr.mono (by omega)) rfl m_l_take k_l_take b_l_take .nil pass0 (pa_cons (pv 0) (pa_cons pe_int pa_nil))) (pe_callTy call_int1 (by rfl) T.n_int (by decide +kernel) (pa_cons (pe_cmpR op_gt (pe_callB (call_lenK (K := K) rfl) (by rfl) T.n_len (by decide +kernel) (pa_cons (pv 3) pa_nil)) pe_int (nomark _)) pa_nil))) pa_nil)) (blkOk_by (N := ["_law_box_here", "_law_way", "_law_some", "_law_parts", "_law_places", "_law_text", "_law_k", "_law_at"]) (sc := defScope s_l_told_again) (by decide +kernel)) (fun _ _ _ _ _ => (pg_name (i := 6) sc_l_told_again.nd rfl (Or.inl rfl))) (fun _ _ _ _ _ => pts_nil) (fun _ _ _ _ _ => (pe_call G_l_take (hr.mono (by omega)) rfl m_l_take k_l_take b_l_take .nil pass0 (pa_cons (pv 0) (pa_cons (pe_callB (call_lenK (K := K) rfl) (by rfl) T.n_len (by decide +kernel) (pa_cons (pv 3) pa_nil)) pa_nil)))))
      (pss_cons (ps_set (i := 5) sc_l_told_again.nd rfl (Or.inl rfl) (pe_bm PySem.F.plainAttrs_str PySem.F.slot_str_join PySem.F.type_str_join mt_join pe_str (pa_cons (pe_lc (own := [("_law_at", 7)]) rfl sc_l_told_again.nd (pi_list (pv 4)) (blkOk_by (N := ["_law_box_here", "_law_way", "_law_some", "_law_parts", "_law_places", "_law_text", "_law_k", "_law_at"]) (sc := defScope s_l_told_again) (by decide +kernel)) (fun _ _ _ _ _ => (pg_name (i := 7) sc_l_told_again.nd rfl (Or.inl rfl))) (fun _ _ _ _ _ => pts_nil) (fun _ _ _ _ _ => (pe_ix (ix_listK (K := K) rfl) (pv 3) (pv 7) (fun _ _ => rfl)))) pa_nil)))
      (pss_one (ps_ret (pe_cmpR (op_eqD hr.units) (pe_call G_l_reading (hr.mono (by omega)) rfl m_l_reading k_l_reading b_l_reading .nil pass0 (pa_cons (pv 1) (pa_cons (pv 5) pa_nil))) (pe_tup (pa_cons pe_str (pa_cons (pe_callTy (call_tupF (K := K) rfl) (by rfl) T.n_tuple (by decide +kernel) (pa_cons (pe_lc (own := [("_law_at", 7)]) rfl sc_l_told_again.nd (pi_list (pv 4)) (blkOk_by (N := ["_law_box_here", "_law_way", "_law_some", "_law_parts", "_law_places", "_law_text", "_law_k", "_law_at"]) (sc := defScope s_l_told_again) (by decide +kernel)) (fun _ _ _ _ _ => (pg_name (i := 7) sc_l_told_again.nd rfl (Or.inl rfl))) (fun _ _ _ _ _ => pts_nil) (fun _ _ _ _ _ => (pe_ix (ix_listK (K := K) rfl) (pv 2) (pv 7) (fun _ _ => rfl)))) pa_nil)) pa_nil))) (nomark _)))))), ?_⟩
    have p62 : (2 : Int) ^ 62 = 4611686018427387904 := by decide
    have lps : (sxs ps).length = ps.length := by rw [List.length_map, List.length_map]
    refine ⟨_, rfl, bx, g, c, _, 6, rfl, B, by omega, by decide, pow8000' 6 3 (by decide) (by decide), fun x H1 x0 x1 B1 b1 => ?_⟩
    have hp1 := b1 p _ hp pb pg
    refine ⟨_, rfl, p, _, rfl, .inl (SqL.of hp1), _, _, rfl, rfl, .inr ⟨_, rfl, ?_⟩⟩
    obtain ⟨N, hN, n0, n6, npos⟩ : ∃ N : Int, x * (if decide ((0 : Int) < (((sxs ps).length : Nat) : Int)) = true then 1 else 0) = N ∧ 0 ≤ N ∧ N < 6 ∧ (0 < N → 0 < ps.length) := by
      by_cases c : 0 < ps.length
      · refine ⟨x, ?_, x0, x1, fun _ => c⟩
        rw [lps, decide_eq_true (by omega), if_pos rfl, Int.mul_one]
      · refine ⟨0, ?_, by decide, by decide, fun z => absurd z (by decide)⟩
        rw [lps, decide_eq_false (by omega), if_neg Bool.false_ne_true, Int.mul_zero]
    refine ⟨_, _, rfl, rfl, .inl ⟨by show -18446744073709551616 < x; omega, by show x < 18446744073709551616; omega⟩, ?_⟩
    refine ⟨N, congrArg (fun z => [V.int z]) hN, by omega, by omega, fun D hD => ?_⟩
    obtain ⟨db, dg, dc⟩ := B1.ne hD
    refine lc_range (lo := 0) (n := N.toNat) (fun j H' => ∃ is : List Nat, is.length = j ∧ (∀ i ∈ is, i < ps.length) ∧ H' D = some (.lst (is.map fun i => V.int ((i : Nat) : Int))) ∧ Box H' bx g c (n + 1 + j) ∧ But bx g H1 H') ⟨[], rfl, (fun i hi => by cases hi), upd_same, (B1.same (same_new hD _)).mono (by omega), But.of (same_new hD _)⟩ ?_ ?_
    · rintro j H2 hj ⟨is, li, hi, hD2, B2, b2⟩
      have hp2 := b2 p _ hp1 pb pg
      have lpos := npos (by omega)
      refine ⟨rfl, _, rfl, _, rfl, p, _, rfl, .inl (SqL.of hp2), bx, g, c, _, _, rfl, B2, by omega, by omega, pow8000' _ 6 (by decide) (by rw [lps]; omega), fun r H3 r0 r1 B3 b3 => ?_⟩
      have hD3 := b3 D _ hD2 db dg
      obtain ⟨k, rfl⟩ : ∃ k : Nat, r = (k : Int) := ⟨r.toNat, by omega⟩
      refine ⟨_, hD3, (by rw [List.length_map]; exact small1000 (by omega)), is ++ [k], by rw [List.length_append, li]; rfl, fun i h => ?_, ?_, (B3.off db dg dc).mono (by omega), ?_⟩
      · rcases List.mem_append.mp h with h | h
        · exact hi i h
        · rw [List.mem_singleton.mp h]
          omega
      · rw [upd_same, List.map_append]
        rfl
      · intro a o h h1 h2
        rw [upd_ne (ne_of_none h hD)]
        exact b3 a o (b2 a o h h1 h2) h1 h2
    rintro H2 ⟨is, li, hi, hD2, B2, b2⟩
    have hp2 := b2 p _ hp1 pb pg
    have hs2 := b2 sa _ (b1 sa _ hs sb sg) sb sg
    have lis : is.length ≤ 5 := by omega
    refine ⟨rfl, _, rfl, D, rfl, ⟨_, SqL.of hD2⟩, fun E1 hE1 => ?_⟩
    have item : ∀ {j : Nat} {v : V}, (is.map fun i => V.int ((i : Nat) : Int))[j]? = some v → ∃ i, is[j]? = some i ∧ i < ps.length ∧ v = .int ((i : Nat) : Int) ∧ j < is.length := fun {j v} h => by
      rw [List.getElem?_map] at h
      cases z : is[j]? with
      | none => rw [z] at h; cases h
      | some i =>
        rw [z] at h
        cases h
        exact ⟨i, rfl, hi i (List.mem_of_getElem? z), rfl, get_lt z⟩
    have lmap : (is.map fun i => V.int ((i : Nat) : Int)).length = is.length := List.length_map _
    have getp : ∀ i, i < ps.length → ps[i]? = some (ps.getD i []) := fun i h => getD_of h _
    have ldr : rs.length = ds.length := dps_len hall
    have getd : ∀ i, i < ps.length → ds[i]? = some (ds.getD i .none) := fun i h => getD_of (by omega) _
    have getr : ∀ i, i < ps.length → rs[i]? = some (rs.getD i .non) := fun i h => getD_of (by omega) _
    refine lc_list (K := K) (a := D) (xs := is.map fun i => V.int ((i : Nat) : Int)) (fun j H' => Same H2 H' ∧ H' E1 = some (.lst (sxs ((is.take j).map fun i => ps.getD i [])))) ⟨same_new hE1 _, upd_same⟩ (fun i H' _ h => SqL.of (h.1 _ _ hD2)) ?_ ?_
    · rintro j v H3 hv ⟨s3, hl⟩
      obtain ⟨i, hj, hi1, rfl, hlt⟩ := item hv
      refine ⟨rfl, _, rfl, _, rfl, p, _, _, tx (ps.getD i []), rfl, rfl, SqL.of (s3 _ _ hp2), at_of (j := i) rfl ?_, _, hl, ?_, same_upd s3 hE1, ?_⟩
      · rw [List.getElem?_map, List.getElem?_map, getp i hi1]
        rfl
      · rw [List.length_map, List.length_map, List.length_map]
        exact small1000 (by rw [List.length_take]; omega)
      · rw [upd_same, take_more hj, List.map_append, show List.map (fun i => ps.getD i []) [i] = [ps.getD i []] from rfl, sxs_snoc]
    rintro H3 ⟨s3, hl3⟩
    rw [lmap, List.take_length] at hl3
    have emp : Str.ofString "" = SX.S [] := by decide +kernel
    have sep : Str.ofString ", " = SX.S [44, 32] := by decide +kernel
    have each : ∀ y ∈ is.map (fun i => ps.getD i []), 44 ∉ y ∧ y.length ≤ 100 ∧ Asc y ∧ y ≠ [] := fun y hy => by
      obtain ⟨i, h, rfl⟩ := List.mem_map.mp hy
      have hx := (hpart i _ _ (getp i (hi i h)) (getd i (hi i h))).1
      refine ⟨hx.no, hx.len, hx.asc, fun e => ?_⟩
      have z := hx.rd
      rw [e] at z
      have w := (bad_ok b [] (by cases b <;> decide +kernel)).1
      rw [z] at w
      cases w
    have lqs : (is.map fun i => ps.getD i []).length ≤ 5 := by rw [List.length_map]; exact lis
    have found : foundD ((is.map fun i => ps.getD i []).map (rdB b)) = .tuple [.str "read", .tuple (is.map fun i => ds.getD i .none)] := by
      have e1 : (is.map fun i => ps.getD i []).map (rdB b) = is.map fun i => some (ds.getD i .none) := by
        rw [List.map_map]
        refine List.map_congr_left fun i h => ?_
        exact (hpart i _ _ (getp i (hi i h)) (getd i (hi i h))).1.rd
      rw [e1]
      unfold foundD
      have e2 : (is.map fun i => some (ds.getD i PyData.none)).any isNo = false := by
        rw [List.any_map, List.any_eq_false]
        exact fun i _ => Bool.false_ne_true
      rw [e2, if_neg Bool.false_ne_true, List.map_map]
      rfl
    have fineR : fine 4 (.tuple [.str "read", .tuple (is.map fun i => ds.getD i .none)]) := fine.tup fun d hd => by
      simp only [List.mem_cons, List.not_mem_nil, or_false] at hd
      rcases hd with rfl | rfl
      · exact (fine_str (by decide +kernel)).mono (by decide)
      · refine (fine.tup (n := 2) fun d hd => ?_)
        obtain ⟨i, h, rfl⟩ := List.mem_map.mp hd
        exact (hpart i _ _ (getp i (hi i h)) (getd i (hi i h))).2
    refine ⟨_, E1, _, rfl, rfl, .inl (SqL.of hl3), sum_fit (n := 5) (fun y hy => (each y hy).2.1) lqs (by decide +kernel), ?_⟩
    rw [sep, SX.join_S]
    have back := parts_join (fun y hy => (each y hy).1) (fun e => (each [] (by rw [e]; exact List.mem_cons_self ..)).2.2.2 rfl)
    have lj : (TL.joinL [44, 32] (is.map fun i => ps.getD i [])).length ≤ 4000 := joinL_len (n := 5) (fun y hy => (each y hy).2.1) lqs (by decide)
    refine ⟨_, rfl, _, rfl, b, _, rfl, lj, (by rw [back]; exact fun y hy => ⟨(each y hy).2.1, (each y hy).2.2.1⟩), (by rw [back]; omega), fun r H4 s4 hr4 => ?_⟩
    rw [back, found] at hr4
    have s24 := s3.trans s4
    refine ⟨_, rfl, D, rfl, ⟨_, SqL.of (s24 _ _ hD2)⟩, fun E2 hE2 => ?_⟩
    refine lc_list (K := K) (a := D) (xs := is.map fun i => V.int ((i : Nat) : Int)) (fun j H' => Same H4 H' ∧ H' E2 = some (.lst ((is.take j).map fun i => rs.getD i .non))) ⟨same_new hE2 _, upd_same⟩ (fun i H' _ h => SqL.of (h.1 _ _ (s24 _ _ hD2))) ?_ ?_
    · rintro j v H5 hv ⟨s5, hl⟩
      obtain ⟨i, hj, hi1, rfl, hlt⟩ := item hv
      refine ⟨rfl, _, rfl, _, rfl, sa, _, _, rs.getD i .non, rfl, rfl, SqL.of (s5 _ _ (s24 _ _ hs2)), at_of (j := i) rfl (getr i hi1), _, hl, ?_, same_upd s5 hE2, ?_⟩
      · rw [List.length_map]
        exact small1000 (by rw [List.length_take]; omega)
      · rw [upd_same, take_more hj, List.map_append]
        rfl
    rintro H5 ⟨s5, hl5⟩
    rw [lmap, List.take_length] at hl5
    refine ⟨E2, _, rfl, SqL.of hl5, fun pt ot npt odt => ⟨(by show 2 ≤ sizeLine; decide), fun pq npq => ?_⟩⟩
    have s6 := same_new npt (.frz ot (.tup (is.map fun i => rs.getD i .non)))
    have s7 := same_new npq (.tup [V.str "read", .ref pt])
    have s47 := s5.trans (s6.trans s7)
    have b27 : But bx g H _ := b1.trans (b2.trans (But.of (s24.trans s47)))
    have pick : ∀ (Hq : Hp), But bx g H Hq → ∀ l : List Nat, (∀ i ∈ l, i < ps.length) → DpAll K Hq (l.map fun i => rs.getD i .non) (l.map fun i => ds.getD i .none) := by
      intro Hq bq l
      induction l with
      | nil => exact fun _ => .nil
      | cons i l ih =>
        intro hl
        have h1 := hl i (List.mem_cons_self ..)
        obtain ⟨d, hd, hdd⟩ := dps_get hall (getr i h1)
        rw [getd i h1] at hd
        cases hd
        exact .cons (dp_same ((mk_but bq).trans (mk_sub _ _ _)) _ _ hdd) (ih fun k hk => hl k (List.mem_cons_of_mem _ hk))
    refine ⟨_, .tuple [.str "read", .tuple (is.map fun i => ds.getD i .none)], dp_same s47 _ _ hr4, .tup (SqT.of upd_same) (.cons (.str _) (.cons (.tup (.inl (.inr ⟨ot, s7 _ _ upd_same⟩)) (pick _ b27 is hi)) .nil)), fineR.shp (by decide), fineR.shp (by decide), ?_⟩
    rw [fineR.self]
    exact q _ ((B2.same (s24.trans s47)).mono (by omega)) b27
end

/-! ### good parts -/
def pD (e : List Nat × (Int × Int)) : PyData := .tuple [.str (SX.S e.1), rat e.2.1 e.2.2]
theorem az_lt {c : Nat} (h : az c = true) : c < 128 := az_ascii h
theorem name_asc {x : List Nat} (h : nameL x = true) : Asc x := fun _ hc => az_lt (name_az h hc)
theorem rat_asc (z : Int × Int) : Asc (ratL z) := fun c hc => by
  rcases ratL_signs hc with e | e | e
  · have := (isD_iff.mp e).2
    omega
  · omega
  · omega
theorem part_ent {x : List Nat} {z : Int × Int} (h : nameL x = true) (hz : Few z) : Part true (entL x z) (pD (x, z)) where
  no := fun e => by
    unfold entL at e
    rcases List.mem_append.mp e with e | e
    · exact name_no h (by rfl) e
    · rcases List.mem_append.mp e with e | e
      · revert e
        decide
      · exact ratL_no (by rfl) (by decide) (by decide) e
  len := by
    have h1 := (name_len h).1
    have h2 := hz.len
    unfold entL
    rw [List.length_append, List.length_append]
    show _ + (3 + _) ≤ 100
    omega
  asc := (name_asc h).app (Asc.app (fun c hc => by
    simp only [List.mem_cons, List.not_mem_nil, or_false] at hc
    omega) (rat_asc z))
  rd := read_ent h hz.1
theorem part_lim {x : List Nat} {lo hi : OZ} (h : nameL x = true) (h1 : FewO lo) (h2 : FewO hi) : Part false (limL x lo hi) (limD x (lo, hi)) where
  no := fun e => by
    rw [limL_eq] at e
    rcases List.mem_append.mp e with e | e
    · rcases List.mem_append.mp e with e | e
      · exact name_no h (by rfl) e
      · cases lo with
        | none => cases e
        | some z =>
          rcases List.mem_append.mp e with e | e
          · revert e
            decide
          · exact ratL_no (by rfl) (by decide) (by decide) e
    · cases hi with
      | none => cases e
      | some z =>
        rcases List.mem_append.mp e with e | e
        · revert e
          decide
        · exact ratL_no (by rfl) (by decide) (by decide) e
  len := lim_len (e := ⟨x, lo, hi⟩) ⟨by have := (name_len h).1; show x.length ≤ 20; omega, h1, h2⟩
  asc := by
    rw [limL_eq]
    refine ((name_asc h).app ?_).app ?_
    · cases lo with
      | none => exact Asc.nil
      | some z => exact Asc.app (fun c hc => by simp only [List.mem_cons, List.not_mem_nil, or_false] at hc; omega) (rat_asc z)
    · cases hi with
      | none => exact Asc.nil
      | some z => exact Asc.app (fun c hc => by simp only [List.mem_cons, List.not_mem_nil, or_false] at hc; omega) (rat_asc z)
  rd := read_lim h h1.red h2.red
theorem part_ne {b : Bool} {x : List Nat} {d : PyData} (h : Part b x d) : x ≠ [] := fun e => by
  have z := h.rd
  rw [e] at z
  have w := (bad_ok b [] (by cases b <;> decide +kernel)).1
  rw [z] at w
  cases w
theorem found_good {b : Bool} (es : List (List Nat × PyData)) (h : ∀ e ∈ es, Part b e.1 e.2) : foundD ((es.map (·.1)).map (rdB b)) = .tuple [.str "read", .tuple (es.map (·.2))] := by
  have e1 : (es.map (·.1)).map (rdB b) = es.map fun e => some e.2 := by
    rw [List.map_map]
    exact List.map_congr_left fun e he => (h e he).rd
  rw [e1]
  unfold foundD
  have e2 : (es.map fun e => some e.2).any isNo = false := by
    rw [List.any_map, List.any_eq_false]
    exact fun i _ => Bool.false_ne_true
  rw [e2, if_neg Bool.false_ne_true, List.map_map]
  rfl
theorem back_good {b : Bool} {es : List (List Nat × PyData)} (h : ∀ e ∈ es, Part b e.1 e.2) : partsL (TL.joinL [44, 32] (es.map (·.1))) = es.map (·.1) := parts_join (fun p hp => by
    obtain ⟨e, he, rfl⟩ := List.mem_map.mp hp
    exact (h e he).no) (fun z => by
    have : [] ∈ es.map (·.1) := by rw [z]; exact List.mem_cons_self ..
    obtain ⟨e, he, h0⟩ := List.mem_map.mp this
    exact part_ne (h e he) h0)
theorem fine_p {e : List Nat × (Int × Int)} (h : nameL e.1 = true) : fine 2 (pD e) := fine.tup fun d hd => by
  simp only [List.mem_cons, List.not_mem_nil, or_false] at hd
  rcases hd with rfl | rfl
  · exact (fine_str (name_okS h)).mono (by decide)
  · exact fine_rat _ _
theorem fine_readD {ds : List PyData} (h : ∀ d ∈ ds, fine 2 d) : fine 4 (.tuple [.str "read", .tuple ds]) := fine.tup fun d hd => by
  simp only [List.mem_cons, List.not_mem_nil, or_false] at hd
  rcases hd with rfl | rfl
  · exact (fine_str (by decide +kernel)).mono (by decide)
  · exact (fine.tup (n := 2) h)
theorem cut_texts (ys : List Str) (lo hi : Option Int) : ∃ ms : List Str, cutV (ys.map V.str) lo hi = ms.map V.str ∧ ms.Sublist ys := by
  unfold cutV
  rw [← List.map_drop, ← List.map_take]
  exact ⟨_, rfl, (List.take_sublist _ _).trans (List.drop_sublist _ _)⟩
theorem numOf_noL {d : PyData} {z : Int × Int} (h : numOf d = some z) : noL d = true := by
  cases d with
  | int _ => rfl
  | none => rfl
  | bool _ => rfl
  | str _ => rfl
  | list _ => cases h
  | dict _ => rfl
  | tuple ds =>
    have h2 : rat2 ds = some z := h
    unfold rat2 at h2
    split at h2
    · rename_i a b
      cases a <;> first | (cases h2; done) | (cases b <;> first | (cases h2; done) | rfl)
    · cases h2
theorem item_p {K : PySem.W.Frag} {Hm : Hp} {rs : List V} {ps : List (List Nat × (Int × Int))} (hall : DpAll K Hm rs (ps.map pD)) {j : Nat} {x : V} (hx : rs[j]? = some x) :
    ∃ e pb vn, ps[j]? = some e ∧ j < ps.length ∧ x = .ref pb ∧ SqT K Hm pb [tx e.1, vn] ∧ Dp K Hm vn (rat e.2.1 e.2.2) := by
  obtain ⟨dt, hdt, hdx⟩ := dps_get hall hx
  rw [List.getElem?_map] at hdt
  obtain ⟨e, he, rfl⟩ : ∃ e, ps[j]? = some e ∧ pD e = dt := by
    cases z : ps[j]? with
    | none => rw [z] at hdt; cases hdt
    | some e => rw [z] at hdt; exact ⟨e, rfl, Option.some.inj hdt⟩
  cases hdx with
  | @tup pb xs_ _ hsq hal =>
    cases hal with
    | cons h1 hal =>
      cases hal with
      | cons h2 hal =>
        cases hal
        cases h1
        exact ⟨e, pb, _, he, get_lt he, rfl, hsq, h2⟩
theorem item_l {K : PySem.W.Frag} {Hm : Hp} {rs : List V} {es : List Lim} (hall : DpAll K Hm rs (es.map Lim.D)) {j : Nat} {x : V} (hx : rs[j]? = some x) :
    ∃ e pb v1 v2, es[j]? = some e ∧ j < es.length ∧ x = .ref pb ∧ SqT K Hm pb [tx e.x, v1, v2] ∧ Dp K Hm v1 (zD e.lo) ∧ Dp K Hm v2 (zD e.hi) ∧ Dp K Hm x e.D := by
  obtain ⟨dt, hdt, hdx⟩ := dps_get hall hx
  rw [List.getElem?_map] at hdt
  obtain ⟨e, he, rfl⟩ : ∃ e, es[j]? = some e ∧ Lim.D e = dt := by
    cases z : es[j]? with
    | none => rw [z] at hdt; cases hdt
    | some e => rw [z] at hdt; exact ⟨e, rfl, Option.some.inj hdt⟩
  have hdx2 := hdx
  cases hdx with
  | @tup pb xs_ _ hsq hal =>
    cases hal with
    | cons h1 hal =>
      cases hal with
      | cons h2 hal =>
        cases hal with
        | cons h3 hal =>
          cases hal
          cases h1
          exact ⟨e, pb, _, _, he, get_lt he, rfl, hsq, h2, h3, hdx2⟩
theorem dp_sames {K : PySem.W.Frag} {H H' : Hp} (s : Same H H') {vs : List V} {ds : List PyData} (h : DpAll K H vs ds) : DpAll K H' vs ds := dps_same s _ _ h
/-- what is known when the table's parts are written -/
structure Tab (K : PySem.W.Frag) (b g c : Addr) (n : Nat) (L D D3 D4 : Addr) (ps : List (List Nat × (Int × Int))) (es : List Giv) (H : Hp) : Prop where
  B : Box H b g c n
  hL : H L = some (.lst ((ps.map fun e => SX.S e.1).map V.str))
  nL : L ≠ b ∧ L ≠ g
  hD : ∃ rs, H D = some (.lst rs) ∧ DpAll K (mk b g H) rs (ps.map pD)
  nD : D ≠ b ∧ D ≠ g
  hG : ∃ ts, H D3 = some (.lst ts) ∧ DpAll K (mk b g H) ts (es.map Giv.D)
  nG : D3 ≠ b ∧ D3 ≠ g
  hes : es.map (fun e => (e.x, e.z)) = ps
  ok : ∀ e ∈ es, e.ok
  hP : H D4 = some (.lst (sxs (ps.map fun e => entL e.1 e.2)))
  nP : D4 ≠ b ∧ D4 ≠ g
  good : ∀ e ∈ ps, nameL e.1 = true ∧ Few e.2
  few : ps.length ≤ 12
theorem Tab.but {K : PySem.W.Frag} {b g c : Addr} {n m : Nat} {L D D3 D4 : Addr} {ps : List (List Nat × (Int × Int))} {es : List Giv} {H H' : Hp} (t : Tab K b g c n L D D3 D4 ps es H) (B' : Box H' b g c m) (x : But b g H H') : Tab K b g c m L D D3 D4 ps es H' where
  B := B'
  hL := x L _ t.hL t.nL.1 t.nL.2
  nL := t.nL
  hD := by
    obtain ⟨rs, h, ha⟩ := t.hD
    exact ⟨rs, x D _ h t.nD.1 t.nD.2, dp_sames (mk_but x) ha⟩
  nD := t.nD
  hG := by
    obtain ⟨rs, h, ha⟩ := t.hG
    exact ⟨rs, x D3 _ h t.nG.1 t.nG.2, dp_sames (mk_but x) ha⟩
  nG := t.nG
  hes := t.hes
  ok := t.ok
  hP := x D4 _ t.hP t.nP.1 t.nP.2
  nP := t.nP
  good := t.good
  few := t.few
def tabE (ps : List (List Nat × (Int × Int))) : List (List Nat × PyData) := ps.map fun e => (entL e.1 e.2, pD e)
theorem tabE_1 (ps : List (List Nat × (Int × Int))) : (tabE ps).map (·.1) = ps.map fun e => entL e.1 e.2 := by
  unfold tabE
  rw [List.map_map]
  rfl
theorem tabE_2 (ps : List (List Nat × (Int × Int))) : (tabE ps).map (·.2) = ps.map pD := by
  unfold tabE
  rw [List.map_map]
  rfl
theorem tabE_ok {ps : List (List Nat × (Int × Int))} (h : ∀ e ∈ ps, nameL e.1 = true ∧ Few e.2) : ∀ e ∈ tabE ps, Part true e.1 e.2 := fun e he => by
  obtain ⟨f, hf, rfl⟩ := List.mem_map.mp he
  exact part_ent (h f hf).1 (h f hf).2
def Lim.good (e : Lim) : Prop := nameL e.x = true ∧ FewO e.lo ∧ FewO e.hi
theorem Lim.good.ok {e : Lim} (h : e.good) : e.ok := ⟨by have := (name_len h.1).1; show e.x.length ≤ 20; omega, h.2.1, h.2.2⟩
theorem Lim.good.part {e : Lim} (h : e.good) : Part false e.L e.D := part_lim h.1 h.2.1 h.2.2
theorem Lim.good.fine {e : Lim} (h : e.good) : fine 2 e.D := fine_lim h.1 _
def limE (ls : List Lim) : List (List Nat × PyData) := ls.map fun e => (e.L, e.D)
theorem limE_1 (ls : List Lim) : (limE ls).map (·.1) = ls.map Lim.L := by
  unfold limE
  rw [List.map_map]
  rfl
theorem limE_2 (ls : List Lim) : (limE ls).map (·.2) = ls.map Lim.D := by
  unfold limE
  rw [List.map_map]
  rfl
theorem limE_ok {ls : List Lim} (h : ∀ e ∈ ls, e.good) : ∀ e ∈ limE ls, Part false e.1 e.2 := fun e he => by
  obtain ⟨f, hf, rfl⟩ := List.mem_map.mp he
  exact (h f hf).part
/-- what is known when the limits' parts are written -/
structure Lms (K : PySem.W.Frag) (b g c : Addr) (n : Nat) (D D2 : Addr) (ls : List Lim) (H : Hp) : Prop where
  B : Box H b g c n
  hD : ∃ rs, H D = some (.lst rs) ∧ DpAll K (mk b g H) rs (ls.map Lim.D)
  nD : D ≠ b ∧ D ≠ g
  hP : H D2 = some (.lst (sxs (ls.map Lim.L)))
  nP : D2 ≠ b ∧ D2 ≠ g
  good : ∀ e ∈ ls, e.good
  few : ls.length ≤ 12
theorem Lms.but {K : PySem.W.Frag} {b g c : Addr} {n m : Nat} {D D2 : Addr} {ls : List Lim} {H H' : Hp} (t : Lms K b g c n D D2 ls H) (B' : Box H' b g c m) (x : But b g H H') : Lms K b g c m D D2 ls H' where
  B := B'
  hD := by
    obtain ⟨rs, h, ha⟩ := t.hD
    exact ⟨rs, x D _ h t.nD.1 t.nD.2, dp_sames (mk_but x) ha⟩
  nD := t.nD
  hP := x D2 _ t.hP t.nP.1 t.nP.2
  nP := t.nP
  good := t.good
  few := t.few
def Lim.turn (e : Lim) : Lim := ⟨e.x, e.hi, e.lo⟩
theorem Lim.good.turn {e : Lim} (h : e.good) : e.turn.good := ⟨h.1, h.2.2, h.2.1⟩

def spLaw (K : PySem.W.Frag) : Sp := fun vs H Q _ => ∃ (a : Addr) (ns : List Int), vs = [.ref a] ∧ SqL K H a (ns.map V.int) ∧ ns.length ≤ 63 ∧ ∀ H', Q (.bl true) H'
section
variable {P : Program} {w : World} {K : PySem.W.Frag} {mg : Str → Option Value} {base : Heap}
set_option maxHeartbeats 3200000 in
theorem ok_law (T : Bt mg) (Ts : mg "sorted" = none) (GB : Kn P w K mg base CX0 "_law_box" 1 ["_law_script"] (spBox K)) (GN : Kn P w K mg base CX0 "_law_names" 3 ["_law_box_here", "_law_many"] spNames) (GT : Kn P w K mg base CX0 "_law_take" 2 ["_law_box_here", "_law_size"] spTake)
    (GH : Kn P w K mg base CX0 "_law_shuffled" 3 ["_law_box_here", "_law_things"] spShufV) (GM : Kn P w K mg base CX0 "_law_number" 3 ["_law_box_here"] (spNumK 40 6)) (GV : Kn P w K mg base CX0 "_law_given" 3 ["_law_box_here", "_law_number_here"] (spGivenD K))
    (GW : Kn P w K mg base CX0 "_law_written" 1 ["_law_number_here"] (spWritten K)) (GX : Kn P w K mg base CX0 "table_text" 5 ["table"] (spTableText K)) (GR : Kn P w K mg base CX0 "_law_reading" 8 ["_law_way", "_law_text"] (spReading K))
    (GQ : Kn P w K mg base CX0 "_law_bent_right" 9 ["_law_box_here", "_law_way", "_law_parts"] spBent91) (GA : Kn P w K mg base CX0 "_law_told_again" 9 ["_law_box_here", "_law_way", "_law_some", "_law_parts"] (spTold K))
    (GL : Kn P w K mg base CX0 "_law_limit_of" 4 ["_law_box_here", "_law_name"] (spLimitOf K)) (GE : Kn P w K mg base CX0 "_law_end_text" 2 ["_law_limit"] (spLimText K)) (GY : Kn P w K mg base CX0 "limits_text" 6 ["limits"] (spLimitsText K))
    {f : Addr} {fd : FuncData} (F : Fun K "law" "law" s_law f fd) : FnOk P w K mg base CX0 10 f fd ["_law_script"] (spLaw K) := by
  obtain ⟨f_l_box, fd_l_box, G_l_box, m_l_box, k_l_box, b_l_box⟩ := GB
  obtain ⟨f_l_names, fd_l_names, G_l_names, m_l_names, k_l_names, b_l_names⟩ := GN
  obtain ⟨f_l_take, fd_l_take, G_l_take, m_l_take, k_l_take, b_l_take⟩ := GT
  obtain ⟨f_l_shuffled, fd_l_shuffled, G_l_shuffled, m_l_shuffled, k_l_shuffled, b_l_shuffled⟩ := GH
  obtain ⟨f_l_number, fd_l_number, G_l_number, m_l_number, k_l_number, b_l_number⟩ := GM
  obtain ⟨f_l_given, fd_l_given, G_l_given, m_l_given, k_l_given, b_l_given⟩ := GV
  obtain ⟨f_l_written, fd_l_written, G_l_written, m_l_written, k_l_written, b_l_written⟩ := GW
  obtain ⟨f_table_text, fd_table_text, G_table_text, m_table_text, k_table_text, b_table_text⟩ := GX
  obtain ⟨f_l_reading, fd_l_reading, G_l_reading, m_l_reading, k_l_reading, b_l_reading⟩ := GR
  obtain ⟨f_l_bent_right, fd_l_bent_right, G_l_bent_right, m_l_bent_right, k_l_bent_right, b_l_bent_right⟩ := GQ
  obtain ⟨f_l_told_again, fd_l_told_again, G_l_told_again, m_l_told_again, k_l_told_again, b_l_told_again⟩ := GA
  obtain ⟨f_l_limit_of, fd_l_limit_of, G_l_limit_of, m_l_limit_of, k_l_limit_of, b_l_limit_of⟩ := GL
  obtain ⟨f_l_end_text, fd_l_end_text, G_l_end_text, m_l_end_text, k_l_end_text, b_l_end_text⟩ := GE
  obtain ⟨f_limits_text, fd_limits_text, G_limits_text, m_limits_text, k_limits_text, b_limits_text⟩ := GY
  refine F.ok sc_law (k := 9) (fun vs H Q E h => ?_) (fun cdv A outer s H vs Q E hr h => ?_)
  · obtain ⟨a, ns, rfl, _⟩ := h
    rfl
  · obtain ⟨a, ns, rfl, hS, hl, q⟩ := h
    refine ⟨_, (pss_cons (ps_set (i := 1) sc_law.nd rfl (Or.inr rfl) (pe_call G_l_box (hr.mono (by omega)) rfl m_l_box k_l_box b_l_box .nil pass0 (pa_cons (pv 0) pa_nil)))
      (pss_cons (ps_for PassesOwn.never rfl (pi_range1 rfl T.n_range (pa_cons pe_int pa_nil)) (pg_name (i := 2) sc_law.nd rfl (Or.inl rfl))
        (pss_cons (ps_set (i := 3) sc_law.nd rfl (Or.inr rfl) (pe_call G_l_names (hr.mono (by omega)) rfl m_l_names k_l_names b_l_names .nil pass0 (pa_cons (pv 1) (pa_cons (pe_ix ix_list (pe_lst (pa_cons pe_int (pa_cons pe_int pa_nil))) (pe_callTy call_int1 (by rfl) T.n_int (by decide +kernel) (pa_cons (pe_cmpR op_eq (pe_call G_l_take (hr.mono (by omega)) rfl m_l_take k_l_take b_l_take .nil pass0 (pa_cons (pv 1) (pa_cons pe_int pa_nil))) pe_int (nomark _)) pa_nil)) (fun _ _ => rfl)) pa_nil))))
      (pss_cons (ps_set (i := 3) sc_law.nd rfl (Or.inr rfl) (pe_op op_cat (pv 3) (pe_lc (own := [("_law_one", 9)]) rfl sc_law.nd (pi_list (pe_lst (pa_cons pe_str (pa_cons pe_str pa_nil)))) (blkOk_by (N := ["_law_script", "_law_box_here", "_law_turn", "_law_names_here", "_law_pairs", "_law_given_here", "_law_parts", "_law_some", "_law_turned", "_law_one", "_law_name", "_law_number_here", "_law_low", "_law_high"]) (sc := defScope s_law) (by decide +kernel)) (fun _ _ _ _ _ => (pg_name (i := 9) sc_law.nd rfl (Or.inl rfl))) (fun _ _ _ _ _ => (pts_one (pt_cmpR (op_notInK (K := K) rfl) (pv 9) (pv 3) (by rfl)))) (fun _ _ _ _ _ => (pv 9)))))
      (C8.pss_cut (ps_set (i := 3) sc_law.nd rfl (Or.inr rfl) (pe_slice sl_list (pe_call G_l_shuffled (hr.mono (by omega)) rfl m_l_shuffled k_l_shuffled b_l_shuffled .nil pass0 (pa_cons (pv 1) (pa_cons (pv 3) pa_nil))) po_none (po_some (pe_call G_l_take (hr.mono (by omega)) rfl m_l_take k_l_take b_l_take .nil pass0 (pa_cons (pv 1) (pa_cons (pe_op op_add (pe_callB (call_lenK (K := K) rfl) (by rfl) T.n_len (by decide +kernel) (pa_cons (pv 3) pa_nil)) pe_int) pa_nil))))))
      (pss_cons (ps_setLc (i := 4) (own := [("_law_name", 10)]) rfl sc_law.nd rfl rfl (sw_true rfl rfl rfl (by decide +kernel)) (pi_list (pv 3)) (blkOk_by (N := ["_law_script", "_law_box_here", "_law_turn", "_law_names_here", "_law_pairs", "_law_given_here", "_law_parts", "_law_some", "_law_turned", "_law_one", "_law_name", "_law_number_here", "_law_low", "_law_high"]) (sc := defScope s_law) (by decide +kernel)) (fun _ _ _ _ _ => (pg_name (i := 10) sc_law.nd rfl (Or.inl rfl))) (fun _ _ _ _ _ => pts_nil) (fun _ _ _ _ _ => (pe_tup (pa_cons (pv 10) (pa_cons (pe_call G_l_number (hr.mono (by omega)) rfl m_l_number k_l_number b_l_number .nil pass0 (pa_cons (pv 1) pa_nil)) pa_nil)))))
      (pss_cons (ps_setLc (i := 5) (own := [("_law_name", 10), ("_law_number_here", 11)]) rfl sc_law.nd rfl rfl (sw_true rfl rfl rfl (by decide +kernel)) (pi_list (pv 4)) (blkOk_by (N := ["_law_script", "_law_box_here", "_law_turn", "_law_names_here", "_law_pairs", "_law_given_here", "_law_parts", "_law_some", "_law_turned", "_law_one", "_law_name", "_law_number_here", "_law_low", "_law_high"]) (sc := defScope s_law) (by decide +kernel)) (fun _ _ _ _ _ => (pg_tupK (K := K) (n := 2) rfl (by rfl) (pgs_cons (pg_name (i := 10) sc_law.nd rfl (Or.inl rfl)) (pgs_cons (pg_name (i := 11) sc_law.nd rfl (Or.inl rfl)) pgs_nil)) (by rfl) (by rfl))) (fun _ _ _ _ _ => pts_nil) (fun _ _ _ _ _ => (pe_tup (pa_cons (pv 10) (pa_cons (pe_call G_l_given (hr.mono (by omega)) rfl m_l_given k_l_given b_l_given .nil pass0 (pa_cons (pv 1) (pa_cons (pv 11) pa_nil))) pa_nil)))))
      (C8.pss_cut (ps_setLc (i := 6) (own := [("_law_name", 10), ("_law_number_here", 11)]) rfl sc_law.nd rfl rfl (sw_true rfl rfl rfl (by decide +kernel)) (pi_list (pv 4)) (blkOk_by (N := ["_law_script", "_law_box_here", "_law_turn", "_law_names_here", "_law_pairs", "_law_given_here", "_law_parts", "_law_some", "_law_turned", "_law_one", "_law_name", "_law_number_here", "_law_low", "_law_high"]) (sc := defScope s_law) (by decide +kernel)) (fun _ _ _ _ _ => (pg_tupK (K := K) (n := 2) rfl (by rfl) (pgs_cons (pg_name (i := 10) sc_law.nd rfl (Or.inl rfl)) (pgs_cons (pg_name (i := 11) sc_law.nd rfl (Or.inl rfl)) pgs_nil)) (by rfl) (by rfl))) (fun _ _ _ _ _ => pts_nil) (fun _ _ _ _ _ => (pe_op op_add_str (pe_op op_add_str (pv 10) pe_str) (pe_call G_l_written (hr.mono (by omega)) rfl m_l_written k_l_written b_l_written .nil pass0 (pa_cons (pv 11) pa_nil)))))
      (pss_cons (ps_if (pt_cmpR op_ne (pe_call G_table_text (hr.mono (by omega)) rfl m_table_text k_table_text b_table_text .nil pass0 (pa_cons (pe_ix ix_list (pe_lst (pa_cons (pv 5) (pa_cons (pe_callTy (call_tupF (K := K) rfl) (by rfl) T.n_tuple (by decide +kernel) (pa_cons (pv 5) pa_nil)) pa_nil))) (pe_call G_l_take (hr.mono (by omega)) rfl m_l_take k_l_take b_l_take .nil pass0 (pa_cons (pv 1) (pa_cons pe_int pa_nil))) (fun _ _ => rfl)) pa_nil)) (pe_bm PySem.F.plainAttrs_str PySem.F.slot_str_join PySem.F.type_str_join mt_join pe_str (pa_cons (pv 6) pa_nil)) (nomark _)) (pss_one (ps_ret pe_bl)) pss_nil)
      (pss_cons (ps_if (pt_cmpR (op_neD hr.units) (pe_call G_l_reading (hr.mono (by omega)) rfl m_l_reading k_l_reading b_l_reading .nil pass0 (pa_cons pe_str (pa_cons (pe_bm PySem.F.plainAttrs_str PySem.F.slot_str_join PySem.F.type_str_join mt_join pe_str (pa_cons (pv 6) pa_nil)) pa_nil))) (pe_tup (pa_cons pe_str (pa_cons (pe_callTy (call_tupF (K := K) rfl) (by rfl) T.n_tuple (by decide +kernel) (pa_cons (pv 4) pa_nil)) pa_nil))) (nomark _)) (pss_one (ps_ret pe_bl)) pss_nil)
      (C8.pss_cut (ps_if (PW.pt (pw_or (pt_not (pt_val (pe_call G_l_bent_right (hr.mono (by omega)) rfl m_l_bent_right k_l_bent_right b_l_bent_right .nil pass0 (pa_cons (pv 1) (pa_cons pe_str (pa_cons (pv 6) pa_nil)))))) (pw_or1 (pt_not (pt_val (pe_call G_l_told_again (hr.mono (by omega)) rfl m_l_told_again k_l_told_again b_l_told_again .nil pass0 (pa_cons (pv 1) (pa_cons pe_str (pa_cons (pv 4) (pa_cons (pv 6) pa_nil)))))))))) (pss_one (ps_ret pe_bl)) pss_nil)
      (pss_cons (ps_setLc (i := 7) (own := [("_law_name", 10)]) rfl sc_law.nd rfl rfl (sw_true rfl rfl rfl (by decide +kernel)) (pi_list (pe_callB cr_sortedS (by rfl) Ts (by decide +kernel) (pa_cons (pv 3) pa_nil))) (blkOk_by (N := ["_law_script", "_law_box_here", "_law_turn", "_law_names_here", "_law_pairs", "_law_given_here", "_law_parts", "_law_some", "_law_turned", "_law_one", "_law_name", "_law_number_here", "_law_low", "_law_high"]) (sc := defScope s_law) (by decide +kernel)) (fun _ _ _ _ _ => (pg_name (i := 10) sc_law.nd rfl (Or.inl rfl))) (fun _ _ _ _ _ => pts_nil) (fun _ _ _ _ _ => (pe_call G_l_limit_of (hr.mono (by omega)) rfl m_l_limit_of k_l_limit_of b_l_limit_of .nil pass0 (pa_cons (pv 1) (pa_cons (pv 10) pa_nil)))))
      (C8.pss_cut (ps_setLc (i := 6) (own := [("_law_one", 9)]) rfl sc_law.nd rfl rfl (sw_true rfl rfl rfl (by decide +kernel)) (pi_list (pv 7)) (blkOk_by (N := ["_law_script", "_law_box_here", "_law_turn", "_law_names_here", "_law_pairs", "_law_given_here", "_law_parts", "_law_some", "_law_turned", "_law_one", "_law_name", "_law_number_here", "_law_low", "_law_high"]) (sc := defScope s_law) (by decide +kernel)) (fun _ _ _ _ _ => (pg_name (i := 9) sc_law.nd rfl (Or.inl rfl))) (fun _ _ _ _ _ => pts_nil) (fun _ _ _ _ _ => (pe_call G_l_end_text (hr.mono (by omega)) rfl m_l_end_text k_l_end_text b_l_end_text .nil pass0 (pa_cons (pv 9) pa_nil))))
      (pss_cons (ps_if (pt_cmpR op_ne (pe_call G_limits_text (hr.mono (by omega)) rfl m_limits_text k_limits_text b_limits_text .nil pass0 (pa_cons (pe_callTy (call_tupF (K := K) rfl) (by rfl) T.n_tuple (by decide +kernel) (pa_cons (pv 7) pa_nil)) pa_nil)) (pe_bm PySem.F.plainAttrs_str PySem.F.slot_str_join PySem.F.type_str_join mt_join pe_str (pa_cons (pv 6) pa_nil)) (nomark _)) (pss_one (ps_ret pe_bl)) pss_nil)
      (pss_cons (ps_if (pt_cmpR (op_neD hr.units) (pe_call G_l_reading (hr.mono (by omega)) rfl m_l_reading k_l_reading b_l_reading .nil pass0 (pa_cons pe_str (pa_cons (pe_bm PySem.F.plainAttrs_str PySem.F.slot_str_join PySem.F.type_str_join mt_join pe_str (pa_cons (pv 6) pa_nil)) pa_nil))) (pe_tup (pa_cons pe_str (pa_cons (pe_callTy (call_tupF (K := K) rfl) (by rfl) T.n_tuple (by decide +kernel) (pa_cons (pv 7) pa_nil)) pa_nil))) (nomark _)) (pss_one (ps_ret pe_bl)) pss_nil)
      (C8.pss_cut (ps_if (PW.pt (pw_or (pt_not (pt_val (pe_call G_l_bent_right (hr.mono (by omega)) rfl m_l_bent_right k_l_bent_right b_l_bent_right .nil pass0 (pa_cons (pv 1) (pa_cons pe_str (pa_cons (pv 6) pa_nil)))))) (pw_or1 (pt_not (pt_val (pe_call G_l_told_again (hr.mono (by omega)) rfl m_l_told_again k_l_told_again b_l_told_again .nil pass0 (pa_cons (pv 1) (pa_cons pe_str (pa_cons (pv 7) (pa_cons (pv 6) pa_nil)))))))))) (pss_one (ps_ret pe_bl)) pss_nil)
      (pss_cons (ps_setLc (i := 8) (own := [("_law_name", 10), ("_law_low", 12), ("_law_high", 13)]) rfl sc_law.nd rfl rfl (sw_true rfl rfl rfl (by decide +kernel)) (pi_list (pv 7)) (blkOk_by (N := ["_law_script", "_law_box_here", "_law_turn", "_law_names_here", "_law_pairs", "_law_given_here", "_law_parts", "_law_some", "_law_turned", "_law_one", "_law_name", "_law_number_here", "_law_low", "_law_high"]) (sc := defScope s_law) (by decide +kernel)) (fun _ _ _ _ _ => (pg_tupK (K := K) (n := 3) rfl (by rfl) (pgs_cons (pg_name (i := 10) sc_law.nd rfl (Or.inl rfl)) (pgs_cons (pg_name (i := 12) sc_law.nd rfl (Or.inl rfl)) (pgs_cons (pg_name (i := 13) sc_law.nd rfl (Or.inl rfl)) pgs_nil))) (by rfl) (by rfl))) (fun _ _ _ _ _ => pts_nil) (fun _ _ _ _ _ => (pe_tup (pa_cons (pv 10) (pa_cons (pv 13) (pa_cons (pv 12) pa_nil))))))
      (pss_one (ps_if (pt_cmpR (op_neD hr.units) (pe_call G_l_reading (hr.mono (by omega)) rfl m_l_reading k_l_reading b_l_reading .nil pass0 (pa_cons pe_str (pa_cons (pe_bm PySem.F.plainAttrs_str PySem.F.slot_str_join PySem.F.type_str_join mt_join pe_str (pa_cons (pe_lc (own := [("_law_one", 9)]) rfl sc_law.nd (pi_list (pv 8)) (blkOk_by (N := ["_law_script", "_law_box_here", "_law_turn", "_law_names_here", "_law_pairs", "_law_given_here", "_law_parts", "_law_some", "_law_turned", "_law_one", "_law_name", "_law_number_here", "_law_low", "_law_high"]) (sc := defScope s_law) (by decide +kernel)) (fun _ _ _ _ _ => (pg_name (i := 9) sc_law.nd rfl (Or.inl rfl))) (fun _ _ _ _ _ => pts_nil) (fun _ _ _ _ _ => (pe_call G_l_end_text (hr.mono (by omega)) rfl m_l_end_text k_l_end_text b_l_end_text .nil pass0 (pa_cons (pv 9) pa_nil)))) pa_nil)) pa_nil))) (pe_tup (pa_cons pe_str (pa_cons (pe_callTy (call_tupF (K := K) rfl) (by rfl) T.n_tuple (by decide +kernel) (pa_cons (pv 8) pa_nil)) pa_nil))) (nomark _)) (pss_one (ps_ret pe_bl)) pss_nil))))))))))))))))))
      (pss_one (ps_ret pe_bl)))), ?_⟩
    refine ⟨_, rfl, a, ns, rfl, hS, hl, fun b g c H0 B0 _ _ _ _ => ?_⟩
    refine ⟨6, rfl, by decide, by decide, ?_⟩
    refine for_range (lo := 0) (n := 6) (fun i σ H' => ∃ o2 o3 o4 o5 o6 o7 o8 o9 o10 o11 o12 o13, σ = [some (.ref a), some (.ref b), o2, o3, o4, o5, o6, o7, o8, o9, o10, o11, o12, o13] ∧ Box H' b g c (i * 1000)) ⟨_, _, _, _, _, _, _, _, _, _, _, _, rfl, B0⟩ ?_ ?_
    · rintro i σ H1 hi ⟨o2, o3, o4, o5, o6, o7, o8, o9, o10, o11, o12, o13, rfl, B1⟩
      -- the names
      refine ⟨_, rfl, (by show 2 ≤ sizeLine; decide), fun p1 np1 => ?_⟩
      have s1 := same_new np1 (.lst [V.int 4, .int 10])
      obtain ⟨p1b, p1g, p1c⟩ := B1.ne np1
      refine ⟨_, rfl, b, g, c, _, 3, rfl, B1.same s1, by omega, by decide, pow8000' 3 2 (by decide) (by decide), fun r1 H2 r10 r11 B2 b2 => ?_⟩
      refine ⟨rfl, .inr ⟨_, rfl, ?_⟩⟩
      have hp1 := b2 p1 _ upd_same p1b p1g
      have idx : ∀ k : Bool, ∃ m : Nat, m ≤ 10 ∧ atI [V.int 4, .int 10] (if k = true then 1 else 0) = some (.int (m : Int)) := fun k => by
        cases k
        · exact ⟨4, by decide, rfl⟩
        · exact ⟨10, by decide, rfl⟩
      obtain ⟨m, hm, hat⟩ := idx (decide (V.int r1 = V.int 0))
      refine ⟨p1, _, _, .int (m : Int), rfl, rfl, SqL.of hp1, hat, b, g, c, _, m, rfl, hm, B2, by omega, fun L nm H3 ln nd hnm hL nL B3 b3 => ?_⟩
      obtain ⟨lb, lg, lc⟩ := B2.ne nL
      refine ⟨_, rfl, (by show 2 ≤ sizeLine; decide), fun p2 np2 => ?_⟩
      have s2 := same_new np2 (.lst [V.str "from", .str "to"])
      refine ⟨p2, rfl, ⟨_, SqL.of upd_same⟩, fun D hD => ?_⟩
      have hL2 := s2 _ _ hL
      refine lc_list (K := K) (a := p2) (xs := [Str.ofString "from", Str.ofString "to"].map V.str) (fun j H' => Same (upd H3 p2 (.lst [V.str "from", .str "to"])) H' ∧ H' D = some (.lst ((([Str.ofString "from", Str.ofString "to"].take j).filter fun x => decide (x ∉ nm)).map V.str))) ⟨same_new hD _, upd_same⟩ (fun j H' _ h => SqL.of (h.1 _ _ upd_same)) ?_ ?_
      · rintro j x H4 hx ⟨s4, hacc⟩
        rw [List.getElem?_map] at hx
        obtain ⟨y, hy, rfl⟩ : ∃ y, [Str.ofString "from", Str.ofString "to"][j]? = some y ∧ V.str y = x := by
          cases z : [Str.ofString "from", Str.ofString "to"][j]? with
          | none => rw [z] at hx; cases hx
          | some y => rw [z] at hx; exact ⟨y, rfl, Option.some.inj hx⟩
        have hnot := inV_strs y nm
        refine ⟨rfl, _, rfl, _, rfl, L, _, rfl, .inl (SqL.of (s4 _ _ hL2)), rfl, flat_strs nm, _, rfl, ?_⟩
        have eb : (!inV (V.str y) (nm.map V.str)) = decide (y ∉ nm) := by rw [hnot, decide_not]
        refine ite2 (fun k => ?_) (fun k => ?_)
        · have k2 := eb.symm.trans k
          refine ⟨_, rfl, _, hacc, ?_, same_upd s4 hD, ?_⟩
          · rw [List.length_map]
            refine Nat.lt_of_le_of_lt (List.length_filter_le _ _) ?_
            rw [List.length_take]
            exact small1000 (Nat.le_trans (Nat.min_le_right _ _) (by decide))
          · rw [upd_same, take_more hy, List.filter_append, List.filter_cons_of_pos (by exact k2), List.filter_nil, List.map_append]
            rfl
        · have k2 := eb.symm.trans (Bool.eq_false_iff.mpr k)
          refine ⟨s4, ?_⟩
          rw [take_more hy, List.filter_append, List.filter_cons_of_neg (by rw [k2]; exact Bool.false_ne_true), List.filter_nil, List.append_nil]
          exact hacc
      rintro H4 ⟨s4, hacc⟩
      rw [show ([Str.ofString "from", Str.ofString "to"].map V.str).length = [Str.ofString "from", Str.ofString "to"].length from rfl, List.take_length] at hacc
      have more : ∀ x ∈ [Str.ofString "from", Str.ofString "to"].filter (fun x => decide (x ∉ nm)), nameL x.cps.toList = true := fun x hx => by
        have := (List.mem_filter.mp hx).1
        simp only [List.mem_cons, List.not_mem_nil, or_false] at this
        rcases this with rfl | rfl <;> decide +kernel
      have lmore : ([Str.ofString "from", Str.ofString "to"].filter (fun x => decide (x ∉ nm))).length ≤ 2 := List.length_filter_le _ _
      generalize [Str.ofString "from", Str.ofString "to"].filter (fun x => decide (x ∉ nm)) = mm at *
      refine ⟨L, D, _, _, rfl, rfl, s4 _ _ hL2, hacc, (by rw [List.length_map, List.length_map]; exact Nat.le_of_lt (small1000 (by omega))), fun p4 np4 => ?_⟩
      rw [← List.map_append]
      have s5 := s4.trans (same_new np4 (.lst ((nm ++ mm).map V.str)))
      have B4 := (B3.same s2).same s5
      obtain ⟨p4b, p4g, p4c⟩ := ((B3.same s2).same s4).ne np4
      have hm2 : ∀ x ∈ nm ++ mm, nameL x.cps.toList = true := fun x hx => (List.mem_append.mp hx).elim (hnm x) (more x)
      have lm2 : (nm ++ mm).length ≤ 12 := by rw [List.length_append]; omega
      have h4 : upd H4 p4 (.lst ((nm ++ mm).map V.str)) p4 = some (.lst ((nm ++ mm).map V.str)) := upd_same
      generalize upd H4 p4 (.lst ((nm ++ mm).map V.str)) = H5 at *
      generalize nm ++ mm = n2 at *
      clear hL hacc hL2 more lmore s4 s5 s2 hD np2 B3 b3 nd hnm hp1 hat b2 B2 nL s1 np1 np4
      -- which of them, in which order
      refine ⟨fun σ H' => ∃ o4 o5 o6 o7 o8 o9 o10 o11 o12 o13, ∃ (L : Addr) (nm : List Str), σ = [some (.ref a), some (.ref b), some (.int (0 + (i : Int))), some (.ref L), o4, o5, o6, o7, o8, o9, o10, o11, o12, o13] ∧ Box H' b g c (i * 1000 + 150) ∧ H' L = some (.lst (nm.map V.str)) ∧ L ≠ b ∧ L ≠ g ∧ nm.length ≤ 12 ∧ (∀ x ∈ nm, nameL x.cps.toList = true), ?_, ?_⟩
      · refine ⟨_, rfl, _, rfl, b, g, c, p4, _, _, rfl, B4, by omega, h4, (by rw [List.length_map]; exact lm2), fun D2 ys H6 pm hD2 nD2 B6 b6 => ?_⟩
        obtain ⟨d2b, d2g, d2c⟩ := B4.ne nD2
        have h6 := b6 p4 _ h4 p4b p4g
        obtain ⟨zs, rfl, pz⟩ := perm_back pm n2 rfl
        have l2 : (n2.map V.str).length = n2.length := List.length_map _
        refine ⟨_, rfl, _, rfl, p4, _, rfl, .inl (SqL.of h6), _, _, rfl, rfl, b, g, c, _, _, rfl, B6, by omega, by omega, pow8000' _ 5 (by decide) (by rw [l2]; omega), fun r H7 r0 r1 B7 b7 => ⟨r, rfl, D2, _, rfl, SqL.of (b7 D2 _ hD2 d2b d2g), fun p7 np7 => ?_⟩⟩
        obtain ⟨ms, em, sub⟩ := cut_texts zs none (some r)
        have s7 := same_new np7 (.lst (cutV (zs.map V.str) none (some r)))
        obtain ⟨p7b, p7g, p7c⟩ := B7.ne np7
        exact ⟨_, _, _, _, _, _, _, _, _, _, p7, ms, rfl, (B7.same s7).mono (by omega), by rw [em]; exact upd_same, p7b, p7g, by have := sub.length_le; have := pz.length_eq; omega, fun x hx => hm2 x (pz.mem_iff.mp (sub.subset hx))⟩
      · rintro σ H6 ⟨o4, o5, o6, o7, o8, o9, o10, o11, o12, o13, L, nm, rfl, B6, hL, lb, lg, lnm, hnm⟩
        clear hm2 lm2 B4 h4 p4b p4g p4c mm n2 p4 D
        -- pairs
        refine ⟨_, rfl, L, rfl, ⟨_, SqL.of hL⟩, fun D hD => ?_⟩
        obtain ⟨db, dg, dc⟩ := B6.ne hD
        refine lc_list (K := K) (a := L) (xs := nm.map V.str) (fun j H' => ∃ (ps : List (List Nat × (Int × Int))) (rs : List V), rs.length = j ∧ ps.map (fun e => SX.S e.1) = nm.take j ∧ (∀ e ∈ ps, nameL e.1 = true ∧ Few e.2) ∧ H' D = some (.lst rs) ∧ DpAll K (hide D (mk b g H')) rs (ps.map pD) ∧ Box H' b g c (i * 1000 + 150 + 6 * j) ∧ But b g H6 H')
          ⟨[], [], rfl, rfl, (fun e he => by cases he), upd_same, .nil, (B6.same (same_new hD _)).mono (by omega), But.of (same_new hD _)⟩ (fun j H' _ h => by obtain ⟨_, _, _, _, _, _, _, _, h⟩ := h; exact SqL.of (h L _ hL lb lg)) ?_ ?_
        · rintro j x H7 hx ⟨ps, rs, lr, hps, hgood, hrs, hall, B7, b7⟩
          rw [List.getElem?_map] at hx
          obtain ⟨y, hy, rfl⟩ : ∃ y, nm[j]? = some y ∧ V.str y = x := by
            cases z : nm[j]? with
            | none => rw [z] at hx; cases hx
            | some y => rw [z] at hx; exact ⟨y, rfl, Option.some.inj hx⟩
          have hj := get_lt hy
          have ey : SX.S y.cps.toList = y := SX.S_tl y
          refine ⟨rfl, _, rfl, _, rfl, b, g, c, _, rfl, B7, by omega, fun pn zn H8 rz sz hpn B8 b8 => ⟨(by show 2 ≤ sizeLine; decide), fun pt npt => ?_⟩⟩
          have hD8 := b8 D _ hrs db dg
          have s8 := same_new npt (.tup [.str y, .ref pn])
          have n1 : pt ≠ D := fun e => by rw [e, hD8] at npt; cases npt
          have n2 : pn ≠ D := fun e => by rw [e, hD8] at hpn; cases hpn
          refine ⟨rs, s8 _ _ hD8, small1000 (by omega), ps ++ [(y.cps.toList, zn)], rs ++ [.ref pt], by rw [List.length_append, lr]; rfl, ?_, fun e he => ?_, upd_same, ?_, ((B8.same s8).off db dg dc).mono (by omega), ?_⟩
          · rw [List.map_append, hps, take_more hy]
            show _ ++ [SX.S y.cps.toList] = _
            rw [ey]
          · rcases List.mem_append.mp he with he | he
            · exact hgood e he
            · rw [List.mem_singleton.mp he]
              exact ⟨hnm y (List.mem_of_getElem? hy), rz, sz⟩
          · rw [g_upd _ _ db dg, List.map_append]
            refine dps_snoc (dps_same (g_but (b8.trans (But.of s8))) _ _ hall) (.tup (SqT.of (hide_at (mk_tup (B8.same s8) upd_same) n1)) (.cons ?_ (.cons (dp_rat (hide_at (mk_tup (B8.same s8) (s8 _ _ hpn)) n2)) .nil)))
            rw [ey]
            exact .str y
          · intro a o h h1 h2
            rw [upd_ne (ne_of_none h hD)]
            exact s8 _ _ (b8 a o (b7 a o h h1 h2) h1 h2)
        rintro H7 ⟨ps, rs, lr, hps, hgood, hrs, hallD, B7o, b7⟩
        rw [List.length_map] at lr hps B7o
        rw [List.take_length] at hps
        have hall := dps_same (hide_sub D (mk b g H7)) _ _ hallD
        have hL7 := b7 L _ hL lb lg
        rw [← hps] at hL7
        have lps : ps.length = rs.length := by
          have := dps_len hall
          rw [List.length_map] at this
          exact this.symm
        have lps2 : ps.length ≤ 12 := by omega
        have B7 := B7o.mono (k := i * 1000 + 250) (by omega)
        clear B7o hallD hps lr b7 B6 hL hnm hD
        -- as they are passed
        refine ⟨_, rfl, D, rfl, ⟨_, SqL.of hrs⟩, fun D3 hD3 => ?_⟩
        obtain ⟨d3b, d3g, d3c⟩ := B7.ne hD3
        refine lc_list (K := K) (a := D) (xs := rs) (fun j H' => ∃ (es : List Giv) (ts : List V), ts.length = j ∧ es.map (fun e => (e.x, e.z)) = ps.take j ∧ (∀ e ∈ es, e.ok) ∧ H' D3 = some (.lst ts) ∧ DpAll K (hide D3 (mk b g H')) ts (es.map Giv.D) ∧ Box H' b g c (i * 1000 + 250 + j) ∧ But b g H7 H')
          ⟨[], [], rfl, rfl, (fun e he => by cases he), upd_same, .nil, (B7.same (same_new hD3 _)).mono (by omega), But.of (same_new hD3 _)⟩ (fun j H' _ h => by obtain ⟨_, _, _, _, _, _, _, _, h⟩ := h; exact SqL.of (h D _ hrs db dg)) ?_ ?_
        · rintro j x H8 hx ⟨es, ts, lt, hes, hok, hts, hallE, B8, b8⟩
          obtain ⟨e, pb, vn, he, hj, rfl, hsq, hvn⟩ := item_p hall hx
          have hg := hgood e (List.mem_of_getElem? he)
          refine ⟨pb, _, rfl, same_seqT ((mk_but b8).trans (mk_sub b g H8)) hsq, rfl, _, _, rfl, _, _, rfl, rfl, rfl, _, rfl, _, rfl, _, rfl, b, g, c, vn, _, e.2, rfl, B8, by omega, dp_same (mk_but b8) _ _ hvn, hg.2.1, fun u H9 nu B9 b9 => ⟨(by show 2 ≤ sizeLine; decide), fun pt npt => ?_⟩⟩
          obtain ⟨d, hd, hn⟩ := nu
          have hD9 := b9 D3 _ hts d3b d3g
          have s9 := same_new npt (.tup [tx e.1, u])
          have n1 : pt ≠ D3 := fun e => by rw [e, hD9] at npt; cases npt
          refine ⟨ts, s9 _ _ hD9, small1000 (by omega), es ++ [⟨e.1, d, e.2⟩], ts ++ [.ref pt], by rw [List.length_append, lt]; rfl, ?_, fun f hf => ?_, upd_same, ?_, ((B9.same s9).off d3b d3g d3c).mono (by omega), ?_⟩
          · rw [List.map_append, hes, take_more he]
            rfl
          · rcases List.mem_append.mp hf with hf | hf
            · exact hok f hf
            · rw [List.mem_singleton.mp hf]
              exact ⟨by have := (name_len hg.1).1; show e.1.length ≤ 20; omega, hn, hg.2⟩
          · rw [g_upd _ _ d3b d3g, List.map_append]
            exact dps_snoc (dps_same (g_but (b9.trans (But.of s9))) _ _ hallE) (.tup (SqT.of (hide_at (mk_tup (B9.same s9) upd_same) n1)) (.cons (.str _) (.cons (dp_hide (mk_off (s9 _ _ hD9) d3b d3g) _ _ (numOf_noL hn) (dp_same (mk_but (But.of s9)) _ _ hd)) .nil)))
          · intro a o h h1 h2
            rw [upd_ne (ne_of_none h hD3)]
            exact s9 _ _ (b9 a o (b8 a o h h1 h2) h1 h2)
        rintro H8 ⟨es, ts, lt, hes, hok, hts, hallE, B8o, b8⟩
        rw [← lps, List.take_length] at hes
        have hallG := dps_same (hide_sub D3 (mk b g H8)) _ _ hallE
        have hrs8 := b8 D _ hrs db dg
        have hall8 := dps_same (mk_but b8) _ _ hall
        have hL8 := b8 L _ hL7 lb lg
        have B8 := B8o.mono (k := i * 1000 + 300) (by omega)
        clear hallE B8o b8 hall hrs hL7 B7 hD3 lt
        -- the parts
        refine ⟨fun σ H' => ∃ o7 o8 o9 o10 o11 o12 o13 D4, σ = [some (.ref a), some (.ref b), some (.int (0 + (i : Int))), some (.ref L), some (.ref D), some (.ref D3), some (.ref D4), o7, o8, o9, o10, o11, o12, o13] ∧ Tab K b g c (i * 1000 + 300) L D D3 D4 ps es H', ?_, ?_⟩
        · refine ⟨_, rfl, D, rfl, ⟨_, SqL.of hrs8⟩, fun D4 hD4 => ?_⟩
          obtain ⟨d4b, d4g, d4c⟩ := B8.ne hD4
          have eqs : Str.ofString " = " = SX.S [32, 61, 32] := by decide +kernel
          refine lc_list (K := K) (a := D) (xs := rs) (fun j H' => Same H8 H' ∧ H' D4 = some (.lst (sxs ((ps.take j).map fun e => entL e.1 e.2)))) ⟨same_new hD4 _, upd_same⟩ (fun j H' _ h => SqL.of (h.1 _ _ hrs8)) ?_ ?_
          · rintro j x H9 hx ⟨s9, hl⟩
            obtain ⟨e, pb, vn, he, hj, rfl, hsq, hvn⟩ := item_p hall8 hx
            have hg := hgood e (List.mem_of_getElem? he)
            have lz := hg.2.len
            have lx := (name_len hg.1).1
            have m9 := (mk_sub b g H8).trans s9
            refine ⟨pb, _, rfl, same_seqT m9 hsq, rfl, _, _, rfl, _, _, rfl, rfl, rfl, _, rfl, _, _, rfl, rfl, (by rw [eqs, SX.S_len, SX.S_len]; exact fitN (by show _ + 3 ≤ 5000; omega)), _, rfl, vn, e.2, rfl, dp_same m9 _ _ hvn, hg.2, ?_⟩
            refine ⟨_, _, rfl, rfl, (by rw [eqs, SX.S_cat, SX.S_len, SX.S_len, List.length_append]; exact fitN (by show _ + 3 + _ ≤ 5000; omega)), _, hl, ?_, same_upd s9 hD4, ?_⟩
            · rw [List.length_map, List.length_map, List.length_map]
              exact small1000 (by rw [List.length_take]; omega)
            · rw [upd_same, take_more he, List.map_append, show List.map (fun e : List Nat × (Int × Int) => entL e.1 e.2) [e] = [entL e.1 e.2] from rfl, sxs_snoc, eqs, SX.S_cat, SX.S_cat, List.append_assoc e.1]
              rfl
          · rintro H9 ⟨s9, hl⟩
            rw [← lps, List.take_length] at hl
            have m9 := mk_but (b := b) (g := g) (But.of s9)
            exact ⟨_, _, _, _, _, _, _, D4, rfl, ⟨B8.same s9, s9 _ _ hL8, ⟨lb, lg⟩, ⟨rs, s9 _ _ hrs8, dps_same m9 _ _ hall8⟩, ⟨db, dg⟩, ⟨ts, s9 _ _ hts, dps_same m9 _ _ hallG⟩, ⟨d3b, d3g⟩, hes, hok, hl, ⟨d4b, d4g⟩, hgood, lps2⟩⟩
        · rintro σ H9 ⟨o7, o8, o9, o10, o11, o12, o13, D4, rfl, t9⟩
          clear hallG hrs8 hall8 hL8 B8 hts hes hok hgood lps lps2 ts rs
          have sep : Str.ofString ", " = SX.S [44, 32] := by decide +kernel
          have plen : ∀ p ∈ ps.map (fun e => entL e.1 e.2), p.length ≤ 100 := fun p hp => by
            obtain ⟨e, he, rfl⟩ := List.mem_map.mp hp
            exact (part_ent (t9.good e he).1 (t9.good e he).2).len
          have pfew : (ps.map fun e => entL e.1 e.2).length ≤ 12 := by rw [List.length_map]; exact t9.few
          have few := t9.few
          -- the table as text
          obtain ⟨ts, hts, hallG⟩ := t9.hG
          refine ⟨_, rfl, _, rfl, D3, _, rfl, SqL.of hts, fun pt ot npt odt => ⟨(by show 2 ≤ sizeLine; decide), fun pL npL => ?_⟩⟩
          have s10 := (same_new npt (.frz ot (.tup ts))).trans (same_new npL (.lst [.ref D3, .ref pt]))
          obtain ⟨lb1, lg1, lc1⟩ := (t9.B.same (same_new npt (.frz ot (.tup ts)))).ne npL
          refine ⟨_, rfl, b, g, c, _, 2, rfl, t9.B.same s10, by omega, by decide, pow8000' 2 2 (by decide) (by decide), fun r H10 r0 r1 B10 b10 => ?_⟩
          have bt : But b g H9 H10 := (But.of s10).trans b10
          have t10 := t9.but B10 bt
          have hL10 := b10 pL _ upd_same lb1 lg1
          obtain ⟨v, hv, hat⟩ := at_pick hL10 r0 r1 rfl
          have way : ∃ qa, v = .ref qa ∧ (SqL K H10 qa ts ∨ SqT K H10 qa ts) := by
            simp only [List.mem_cons, List.not_mem_nil, or_false] at hv
            rcases hv with rfl | rfl
            · exact ⟨D3, rfl, .inl (SqL.of (bt D3 _ hts t9.nG.1 t9.nG.2))⟩
            · have hpt : H10 pt = some (.frz ot (.tup ts)) := by
                obtain ⟨pb, pg, _⟩ := t9.B.ne npt
                exact b10 pt _ ((same_new npL (.lst [.ref D3, .ref pt])) _ _ upd_same) pb pg
              exact ⟨pt, rfl, .inr (.inl (.inr ⟨ot, hpt⟩))⟩
          obtain ⟨qa, rfl, hsq⟩ := way
          have lenE : es.length ≤ 12 := by
            have := congrArg List.length t9.hes
            rw [List.length_map] at this
            omega
          refine ⟨pL, _, r, _, rfl, rfl, SqL.of hL10, hat, qa, ts, es, rfl, hsq, dps_same ((mk_but bt).trans (mk_sub b g H10)) _ _ hallG, t9.ok, by omega, fun H11 s11 => ?_⟩
          have t11 := t10.but (B10.same s11) (But.of s11)
          refine ⟨rfl, _, rfl, _, D4, _, rfl, rfl, .inl (SqL.of t11.hP), sum_fit (n := 12) plen pfew (by decide +kernel), rfl, _, rfl, ?_⟩
          rw [sep, SX.join_S]
          have e1 : (es.map fun e => entL e.x e.z) = ps.map fun e => entL e.1 e.2 := by
            rw [← t9.hes, List.map_map]
            rfl
          rw [e1]
          refine ite2 (fun cc => ?_) (fun _ => ?_)
          · rw [decide_eq_true rfl] at cc
            cases cc
          clear hL10 hat hsq hv t10 bt b10 B10 s10 npL npt hallG hts
          -- reading it
          have tE := tabE_ok t9.good
          have back := back_good tE
          have found := found_good _ tE
          rw [tabE_1] at back found
          rw [tabE_2] at found
          have fineR := fine_readD (ds := ps.map pD) fun d hd => by
            obtain ⟨e, he, rfl⟩ := List.mem_map.mp hd
            exact fine_p (t9.good e he).1
          refine ⟨rfl, _, rfl, _, D4, _, rfl, rfl, .inl (SqL.of t11.hP), sum_fit (n := 12) plen pfew (by decide +kernel), ?_⟩
          refine ⟨true, TL.joinL [44, 32] (ps.map fun e => entL e.1 e.2), by rw [SX.join_S]; rfl, joinL_len (n := 12) plen pfew (by decide), (by
            rw [back]
            intro p hp
            obtain ⟨e, he, rfl⟩ := List.mem_map.mp hp
            have := part_ent (t9.good e he).1 (t9.good e he).2
            exact ⟨this.len, this.asc⟩), (by rw [back]; omega), fun rr H12 s12 hr12 => ?_⟩
          rw [show rdB true = readE from rfl] at found
          rw [back, show rdB true = readE from rfl, found] at hr12
          have t12 := t11.but (t11.B.same s12) (But.of s12)
          obtain ⟨rs, hrs, hall⟩ := t12.hD
          refine ⟨_, rfl, D, _, rfl, SqL.of hrs, fun pt ot npt odt => ⟨(by show 2 ≤ sizeLine; decide), fun pq npq => ?_⟩⟩
          have s13 := same_new npt (.frz ot (.tup rs))
          have s14 := same_new npq (.tup [V.str "read", .ref pt])
          have s134 := s13.trans s14
          refine ⟨_, .tuple [.str "read", .tuple (ps.map pD)], dp_same s134 _ _ hr12, .tup (SqT.of upd_same) (.cons (.str _) (.cons (.tup (.inl (.inr ⟨ot, s14 _ _ upd_same⟩)) (dp_sames ((mk_sub b g H12).trans s134) hall)) .nil)), fineR.shp (by decide), fineR.shp (by decide), _, rfl, ?_⟩
          rw [fineR.self]
          refine ite2 (fun cc => by cases cc) (fun _ => ?_)
          have t13 := t12.but (t12.B.same s134) (But.of s134)
          generalize upd (upd H12 pt (.frz ot (.tup rs))) pq (.tup [V.str "read", .ref pt]) = H13 at *
          clear s134 s14 s13 npq npt hall hrs hr12 t12 s12 t11 s11 t9
          refine ⟨fun σ H' => ∃ o4 o5 o6 o7 o8 o9 o10 o11 o12 o13, ∃ (nm : List Str), σ = [some (.ref a), some (.ref b), some (.int (0 + (i : Int))), some (.ref L), o4, o5, o6, o7, o8, o9, o10, o11, o12, o13] ∧ Box H' b g c (i * 1000 + 350) ∧ H' L = some (.lst (nm.map V.str)) ∧ nm.length ≤ 12 ∧ (∀ x ∈ nm, nameL x.cps.toList = true), ?_, ?_⟩
          · have hps : ∀ x ∈ ps.map (fun e => entL e.1 e.2), ∃ d, Part true x d := fun x hx => by
              obtain ⟨e, he, rfl⟩ := List.mem_map.mp hx
              exact ⟨_, part_ent (t13.good e he).1 (t13.good e he).2⟩
            refine ⟨_, rfl, _, rfl, b, g, c, D4, _, true, _, rfl, t13.B, by omega, t13.hP, t13.nP.1, t13.nP.2, by omega, hps, fun H14 B14 b14 => ⟨_, rfl, ?_⟩⟩
            have t14 := t13.but B14 b14
            refine ite2 (fun cc => by cases cc) (fun _ => ?_)
            obtain ⟨rs, hrs, hall⟩ := t14.hD
            refine ⟨_, rfl, _, rfl, _, rfl, b, g, c, D, D4, _, true, rs, ps.map pD, ps.map fun e => entL e.1 e.2, rfl, B14, by omega, hrs, t14.nD.1, t14.nD.2, t14.hP, t14.nP.1, t14.nP.2, by omega, hall, by rw [List.length_map, List.length_map], fun k x d hx hd => ?_, fun H15 B15 b15 => ⟨_, rfl, ?_⟩⟩
            · rw [List.getElem?_map] at hx hd
              cases z : ps[k]? with
              | none => rw [z] at hx; cases hx
              | some e =>
                rw [z] at hx hd
                cases hx
                cases hd
                have hg := t14.good e (List.mem_of_getElem? z)
                exact ⟨part_ent hg.1 hg.2, fine_p hg.1⟩
            have t15 := t14.but B15 b15
            refine ite2 (fun cc => by cases cc) (fun _ => ?_)
            refine ⟨_, _, _, _, _, _, _, _, _, _, ps.map fun e => SX.S e.1, rfl, t15.B.mono (by omega), t15.hL, by rw [List.length_map]; exact few, fun x hx => ?_⟩
            obtain ⟨e, he, rfl⟩ := List.mem_map.mp hx
            rw [show (SX.S e.1).cps.toList = e.1 by simp [SX.S]]
            exact (t15.good e he).1
          · rintro σ H14 ⟨o4, o5, o6, o7, o8, o9, o10, o11, o12, o13, nm, rfl, B14, hL, lnm, hnm⟩
            clear fineR found back tE e1 few pfew plen
            -- the limits
            refine ⟨_, rfl, L, nm, rfl, SqL.of hL, by omega, fun ys pS pm so npS => ⟨pS, rfl, ⟨_, SqL.of upd_same⟩, fun D5 hD5 => ?_⟩⟩
            have sS := same_new npS (.lst (ys.map V.str))
            have BS := B14.same sS
            obtain ⟨psb, psg, psc⟩ := B14.ne npS
            obtain ⟨d5b, d5g, d5c⟩ := BS.ne hD5
            have lys : ys.length ≤ 12 := by rw [pm.length_eq]; exact lnm
            have hys : ∀ x ∈ ys, nameL x.cps.toList = true := fun x hx => hnm x (pm.mem_iff.mp hx)
            have hpS : upd H14 pS (.lst (ys.map V.str)) pS = some (.lst (ys.map V.str)) := upd_same
            generalize upd H14 pS (.lst (ys.map V.str)) = HS at *
            refine lc_list (K := K) (a := pS) (xs := ys.map V.str) (fun j H' => ∃ (ls : List Lim) (rs : List V), rs.length = j ∧ ls.length = j ∧ (∀ e ∈ ls, e.good) ∧ H' D5 = some (.lst rs) ∧ DpAll K (hide D5 (mk b g H')) rs (ls.map Lim.D) ∧ Box H' b g c (i * 1000 + 350 + 13 * j) ∧ But b g HS H')
              ⟨[], [], rfl, rfl, (fun e he => by cases he), upd_same, .nil, (BS.same (same_new hD5 _)).mono (by omega), But.of (same_new hD5 _)⟩ (fun j H' _ h => by obtain ⟨_, _, _, _, _, _, _, _, h⟩ := h; exact SqL.of (h pS _ hpS psb psg)) ?_ ?_
            · rintro j x H15 hx ⟨ls, rs, lr, ll, hgood, hrs, hall, B15, b15⟩
              rw [List.getElem?_map] at hx
              obtain ⟨y, hy, rfl⟩ : ∃ y, ys[j]? = some y ∧ V.str y = x := by
                cases z : ys[j]? with
                | none => rw [z] at hx; cases hx
                | some y => rw [z] at hx; exact ⟨y, rfl, Option.some.inj hx⟩
              have hj := get_lt hy
              have ey : SX.S y.cps.toList = y := SX.S_tl y
              refine ⟨rfl, _, rfl, _, rfl, b, g, c, _, y.cps.toList, congrArg (fun s => [V.ref b, V.str s]) ey.symm, B15, by omega, fun r lo hi H16 flo fhi hr B16 b16 => ?_⟩
              have hD16 := b16 D5 _ hrs d5b d5g
              refine ⟨rs, hD16, small1000 (by omega), ls ++ [⟨y.cps.toList, lo, hi⟩], rs ++ [r], by rw [List.length_append, lr]; rfl, by rw [List.length_append, ll]; rfl, fun e he => ?_, upd_same, ?_, (B16.off d5b d5g d5c).mono (by omega), ?_⟩
              · rcases List.mem_append.mp he with he | he
                · exact hgood e he
                · rw [List.mem_singleton.mp he]
                  exact ⟨hys y (List.mem_of_getElem? hy), flo, fhi⟩
              · rw [g_upd _ _ d5b d5g, List.map_append]
                exact dps_snoc (dps_same (g_but b16) _ _ hall) (dp_hide (mk_off hD16 d5b d5g) _ _ (noL_lim _ _) hr)
              · intro a o h h1 h2
                rw [upd_ne (ne_of_none h hD5)]
                exact b16 a o (b15 a o h h1 h2) h1 h2
            rintro H15 ⟨ls, rs, lr, ll, hgood, hrs, hallD, B15o, b15⟩
            rw [List.length_map] at lr ll B15o
            have hall := dps_same (hide_sub D5 (mk b g H15)) _ _ hallD
            have B15 := B15o.mono (k := i * 1000 + 600) (by omega)
            have lls : ls.length ≤ 12 := by omega
            have lrl : rs.length = ls.length := by omega
            clear hallD B15o b15 hD5 hpS hys lys pm so sS BS npS hL B14 lr ll
            refine ⟨fun σ H' => ∃ o4 o5 o8 o9 o10 o11 o12 o13 D6, σ = [some (.ref a), some (.ref b), some (.int (0 + (i : Int))), some (.ref L), o4, o5, some (.ref D6), some (.ref D5), o8, o9, o10, o11, o12, o13] ∧ Lms K b g c (i * 1000 + 600) D5 D6 ls H', ?_, ?_⟩
            · refine ⟨_, rfl, D5, rfl, ⟨_, SqL.of hrs⟩, fun D6 hD6 => ?_⟩
              obtain ⟨d6b, d6g, d6c⟩ := B15.ne hD6
              refine lc_list (K := K) (a := D5) (xs := rs) (fun j H' => Same H15 H' ∧ H' D6 = some (.lst (sxs ((ls.take j).map Lim.L)))) ⟨same_new hD6 _, upd_same⟩ (fun j H' _ h => SqL.of (h.1 _ _ hrs)) ?_ ?_
              · rintro j x H16 hx ⟨s16, hl⟩
                obtain ⟨e, pb, v1, v2, he, hj, rfl, hsq, hv1, hv2, hdx⟩ := item_l hall hx
                have hg := hgood e (List.mem_of_getElem? he)
                refine ⟨rfl, _, rfl, _, e.x, e.lo, e.hi, rfl, dp_same ((mk_sub b g H15).trans s16) _ _ hdx, hg.ok.1, hg.2.1, hg.2.2, fun H17 s17 => ?_⟩
                refine ⟨_, s17 _ _ hl, ?_, same_upd (s16.trans s17) hD6, ?_⟩
                · rw [List.length_map, List.length_map, List.length_map]
                  exact small1000 (by rw [List.length_take]; omega)
                · rw [upd_same, take_more he, List.map_append, show List.map Lim.L [e] = [limL e.x e.lo e.hi] from rfl, sxs_snoc]
              · rintro H16 ⟨s16, hl⟩
                rw [lrl, List.take_length] at hl
                exact ⟨_, _, _, _, _, _, _, _, D6, rfl, ⟨B15.same s16, ⟨rs, s16 _ _ hrs, dp_sames (mk_but (But.of s16)) hall⟩, ⟨d5b, d5g⟩, hl, ⟨d6b, d6g⟩, hgood, lls⟩⟩
            · rintro σ H16 ⟨o4, o5, o8, o9, o10, o11, o12, o13, D6, rfl, t16⟩
              clear hgood hrs hall B15 lls lrl rs
              have sep2 : Str.ofString ", " = SX.S [44, 32] := by decide +kernel
              have plen : ∀ p ∈ ls.map Lim.L, p.length ≤ 100 := fun p hp => by
                obtain ⟨e, he, rfl⟩ := List.mem_map.mp hp
                exact (t16.good e he).part.len
              have few := t16.few
              have pfew : (ls.map Lim.L).length ≤ 12 := by rw [List.length_map]; exact few
              have pok : ∀ p ∈ ls.map Lim.L, p.length ≤ 100 ∧ Asc p := fun p hp => by
                obtain ⟨e, he, rfl⟩ := List.mem_map.mp hp
                exact ⟨(t16.good e he).part.len, (t16.good e he).part.asc⟩
              -- the limits as text
              obtain ⟨rs, hrs, hall⟩ := t16.hD
              refine ⟨_, rfl, D5, _, rfl, SqL.of hrs, fun pt ot npt odt => ?_⟩
              have s17 := same_new npt (.frz ot (.tup rs))
              refine ⟨pt, rs, ls, rfl, .inl (.inr ⟨ot, upd_same⟩), dp_sames ((mk_sub b g H16).trans s17) hall, fun e he => (t16.good e he).ok, by omega, fun H17 s18 => ?_⟩
              have t17 := t16.but ((t16.B.same s17).same s18) (But.of (s17.trans s18))
              refine ⟨rfl, _, rfl, _, D6, _, rfl, rfl, .inl (SqL.of t17.hP), sum_fit (n := 12) plen pfew (by decide +kernel), rfl, _, rfl, ?_⟩
              rw [SX.join_S]
              refine ite2 (fun cc => ?_) (fun _ => ?_)
              · rw [decide_eq_true rfl] at cc
                cases cc
              clear s18 s17 npt hrs hall
              -- reading them
              have tE := limE_ok t16.good
              have back := back_good tE
              have found := found_good _ tE
              rw [limE_1] at back found
              rw [limE_2] at found
              have fineR := fine_readD (ds := ls.map Lim.D) fun d hd => by
                obtain ⟨e, he, rfl⟩ := List.mem_map.mp hd
                exact (t16.good e he).fine
              refine ⟨rfl, _, rfl, _, D6, _, rfl, rfl, .inl (SqL.of t17.hP), sum_fit (n := 12) plen pfew (by decide +kernel), ?_⟩
              refine ⟨false, TL.joinL [44, 32] (ls.map Lim.L), by rw [SX.join_S]; rfl, joinL_len (n := 12) plen pfew (by decide), (by rw [back]; exact pok), (by rw [back]; omega), fun rr H18 s18 hr18 => ?_⟩
              rw [back, found] at hr18
              have t18 := t17.but (t17.B.same s18) (But.of s18)
              obtain ⟨rs, hrs, hall⟩ := t18.hD
              refine ⟨_, rfl, D5, _, rfl, SqL.of hrs, fun pt ot npt odt => ⟨(by show 2 ≤ sizeLine; decide), fun pq npq => ?_⟩⟩
              have s19 := same_new npt (.frz ot (.tup rs))
              have s20 := same_new npq (.tup [V.str "read", .ref pt])
              have s190 := s19.trans s20
              refine ⟨_, .tuple [.str "read", .tuple (ls.map Lim.D)], dp_same s190 _ _ hr18, .tup (SqT.of upd_same) (.cons (.str _) (.cons (.tup (.inl (.inr ⟨ot, s20 _ _ upd_same⟩)) (dp_sames ((mk_sub b g H18).trans s190) hall)) .nil)), fineR.shp (by decide), fineR.shp (by decide), _, rfl, ?_⟩
              rw [fineR.self]
              refine ite2 (fun cc => by cases cc) (fun _ => ?_)
              have t19 := t18.but (t18.B.same s190) (But.of s190)
              generalize upd (upd H18 pt (.frz ot (.tup rs))) pq (.tup [V.str "read", .ref pt]) = H19 at *
              clear s190 s20 s19 npq npt hall hrs hr18 t18 s18 t17 rs
              refine ⟨fun σ H' => ∃ o4 o5 o6 o8 o9 o10 o11 o12 o13, σ = [some (.ref a), some (.ref b), some (.int (0 + (i : Int))), some (.ref L), o4, o5, o6, some (.ref D5), o8, o9, o10, o11, o12, o13] ∧ Box H' b g c (i * 1000 + 650) ∧ (∃ rs, H' D5 = some (.lst rs) ∧ DpAll K (mk b g H') rs (ls.map Lim.D)), ?_, ?_⟩
              · have hps : ∀ x ∈ ls.map Lim.L, ∃ d, Part false x d := fun x hx => by
                  obtain ⟨e, he, rfl⟩ := List.mem_map.mp hx
                  exact ⟨_, (t16.good e he).part⟩
                refine ⟨_, rfl, _, rfl, b, g, c, D6, _, false, _, rfl, t19.B, by omega, t19.hP, t19.nP.1, t19.nP.2, by omega, hps, fun H20 B20 b20 => ⟨_, rfl, ?_⟩⟩
                have t20 := t19.but B20 b20
                refine ite2 (fun cc => by cases cc) (fun _ => ?_)
                obtain ⟨rs, hrs, hall⟩ := t20.hD
                refine ⟨_, rfl, _, rfl, _, rfl, b, g, c, D5, D6, _, false, rs, ls.map Lim.D, ls.map Lim.L, rfl, B20, by omega, hrs, t20.nD.1, t20.nD.2, t20.hP, t20.nP.1, t20.nP.2, by omega, hall, by rw [List.length_map, List.length_map], fun k x d hx hd => ?_, fun H21 B21 b21 => ⟨_, rfl, ?_⟩⟩
                · rw [List.getElem?_map] at hx hd
                  cases z : ls[k]? with
                  | none => rw [z] at hx; cases hx
                  | some e =>
                    rw [z] at hx hd
                    cases hx
                    cases hd
                    have hg := t20.good e (List.mem_of_getElem? z)
                    exact ⟨hg.part, hg.fine⟩
                have t21 := t20.but B21 b21
                refine ite2 (fun cc => by cases cc) (fun _ => ?_)
                exact ⟨_, _, _, _, _, _, _, _, _, rfl, t21.B.mono (by omega), t21.hD⟩
              · rintro σ H20 ⟨o4, o5, o6, o8, o9, o10, o11, o12, o13, rfl, B20, rs, hrs, hallM⟩
                have hall := dp_sames (mk_sub b g H20) hallM
                have lrl : rs.length = ls.length := by
                  have := dps_len hall
                  rw [List.length_map] at this
                  exact this
                clear hallM plen pfew pok back found tE fineR
                refine ⟨_, rfl, D5, rfl, ⟨_, SqL.of hrs⟩, fun D7 hD7 => ?_⟩
                refine lc_list (K := K) (a := D5) (xs := rs) (fun j H' => Same H20 H' ∧ ∃ ts : List V, ts.length = j ∧ H' D7 = some (.lst ts) ∧ DpAll K (hide D7 H') ts (((ls.take j).map Lim.turn).map Lim.D)) ⟨same_new hD7 _, [], rfl, upd_same, .nil⟩ (fun j H' _ h => SqL.of (h.1 _ _ hrs)) ?_ ?_
                · rintro j x H21 hx ⟨s21, ts, lt, hts, hallT⟩
                  obtain ⟨e, pb, v1, v2, he, hj, rfl, hsq, hv1, hv2, _⟩ := item_l hall hx
                  refine ⟨pb, _, rfl, same_seqT s21 hsq, rfl, _, _, rfl, _, _, rfl, _, _, rfl, rfl, rfl, _, rfl, _, rfl, _, rfl, (by show 3 ≤ sizeLine; decide), fun pt npt => ?_⟩
                  have s22 := same_new npt (.tup [tx e.x, v2, v1])
                  have n1 : pt ≠ D7 := fun e => by rw [e, hts] at npt; cases npt
                  have hs := hide_same (s21.trans s22) hD7
                  refine ⟨ts, s22 _ _ hts, small1000 (by omega), same_upd (s21.trans s22) hD7, ts ++ [.ref pt], by rw [List.length_append, lt]; rfl, upd_same, ?_⟩
                  rw [take_more he, List.map_append, List.map_append, hide_upd]
                  exact dps_snoc (dps_same (hide_mono s22) _ _ hallT) (.tup (SqT.of (hide_at upd_same n1)) (.cons (.str _) (.cons (dp_same hs _ _ hv2) (.cons (dp_same hs _ _ hv1) .nil))))
                rintro H21 ⟨s21, ts, lt, hts, hallD⟩
                rw [lrl, List.take_length] at hallD
                have hallT := dp_sames (hide_sub D7 H21) hallD
                have tgood : ∀ e ∈ ls.map Lim.turn, e.good := fun e he => by
                  obtain ⟨f, hf, rfl⟩ := List.mem_map.mp he
                  exact (t16.good f hf).turn
                have B21 := B20.same s21
                have tfew : (ls.map Lim.turn).length ≤ 12 := by rw [List.length_map]; exact few
                have lt2 : ts.length = (ls.map Lim.turn).length := by rw [lt, lrl, List.length_map]
                clear hallD hall hrs s21 lt hD7
                generalize ls.map Lim.turn = tl at *
                -- the turned ones
                refine ⟨rfl, _, rfl, D7, rfl, ⟨_, SqL.of hts⟩, fun D8 hD8 => ?_⟩
                refine lc_list (K := K) (a := D7) (xs := ts) (fun j H' => Same H21 H' ∧ H' D8 = some (.lst (sxs ((tl.take j).map Lim.L)))) ⟨same_new hD8 _, upd_same⟩ (fun j H' _ h => SqL.of (h.1 _ _ hts)) ?_ ?_
                · rintro j x H22 hx ⟨s22, hl⟩
                  obtain ⟨e, pb, v1, v2, he, hj, rfl, hsq, hv1, hv2, hdx⟩ := item_l hallT hx
                  have hg := tgood e (List.mem_of_getElem? he)
                  refine ⟨rfl, _, rfl, _, e.x, e.lo, e.hi, rfl, dp_same s22 _ _ hdx, hg.ok.1, hg.2.1, hg.2.2, fun H23 s23 => ?_⟩
                  refine ⟨_, s23 _ _ hl, ?_, same_upd (s22.trans s23) hD8, ?_⟩
                  · rw [List.length_map, List.length_map, List.length_map]
                    exact small1000 (by rw [List.length_take]; omega)
                  · rw [upd_same, take_more he, List.map_append, show List.map Lim.L [e] = [limL e.x e.lo e.hi] from rfl, sxs_snoc]
                rintro H22 ⟨s22, hl22⟩
                rw [lt2, List.take_length] at hl22
                have plen : ∀ p ∈ tl.map Lim.L, p.length ≤ 100 := fun p hp => by
                  obtain ⟨e, he, rfl⟩ := List.mem_map.mp hp
                  exact (tgood e he).part.len
                have pfew : (tl.map Lim.L).length ≤ 12 := by rw [List.length_map]; exact tfew
                have pok : ∀ p ∈ tl.map Lim.L, p.length ≤ 100 ∧ Asc p := fun p hp => by
                  obtain ⟨e, he, rfl⟩ := List.mem_map.mp hp
                  exact ⟨(tgood e he).part.len, (tgood e he).part.asc⟩
                have tE := limE_ok tgood
                have back := back_good tE
                have found := found_good _ tE
                rw [limE_1] at back found
                rw [limE_2] at found
                have fineR := fine_readD (ds := tl.map Lim.D) fun d hd => by
                  obtain ⟨e, he, rfl⟩ := List.mem_map.mp hd
                  exact (tgood e he).fine
                refine ⟨_, D8, _, rfl, rfl, .inl (SqL.of hl22), sum_fit (n := 12) plen pfew (by decide +kernel), ?_⟩
                refine ⟨false, TL.joinL [44, 32] (tl.map Lim.L), by rw [SX.join_S]; rfl, joinL_len (n := 12) plen pfew (by decide), (by rw [back]; exact pok), (by rw [back]; omega), fun rr H23 s23 hr23 => ?_⟩
                rw [back, found] at hr23
                have s223 := s22.trans s23
                refine ⟨_, rfl, D7, _, rfl, SqL.of (s223 _ _ hts), fun pt ot npt odt => ⟨(by show 2 ≤ sizeLine; decide), fun pq npq => ?_⟩⟩
                have s24 := same_new npt (.frz ot (.tup ts))
                have s25 := same_new npq (.tup [V.str "read", .ref pt])
                have s245 := s24.trans s25
                refine ⟨_, .tuple [.str "read", .tuple (tl.map Lim.D)], dp_same s245 _ _ hr23, .tup (SqT.of upd_same) (.cons (.str _) (.cons (.tup (.inl (.inr ⟨ot, s25 _ _ upd_same⟩)) (dp_sames (s223.trans s245) hallT)) .nil)), fineR.shp (by decide), fineR.shp (by decide), _, rfl, ?_⟩
                rw [fineR.self]
                refine ite2 (fun cc => by cases cc) (fun _ => ?_)
                exact ⟨_, _, _, _, _, _, _, _, _, _, _, _, rfl, (B21.same (s223.trans s245)).mono (by omega)⟩
    · rintro σ H1 ⟨o2, o3, o4, o5, o6, o7, o8, o9, o10, o11, o12, o13, rfl, B1⟩
      exact q H1
end

theorem walk {l : PySem.W.OpenLaw} {q : Program} {loose : List Str} {XP : (Str → Option Value) → Heap → Prop} {YP : World → Heap → Prop} {d : DefRec} {K : Params → PySem.W.Frag} (hn : l.most = some 63) (hdf : d.params.defaults = [])
    (hY : ∀ (w : World) (h : Heap), YP w h → (K w.params).In h)
    (F : ∀ (w : World) (mg : Str → Option Value) (fa : Addr) (h : Heap), (K w.params).In h → h.Ns mainGlobals mg → mg d.name = some (.ref fa) →
      ∃ fd : FuncData, (∀ (s : Shared) (u : Value), BindsTo s fd ⟨[u], []⟩ [("_law_script", u)]) ∧ ∀ base : Heap, (K w.params).In base → base.Ns mainGlobals mg → FnOk l.prog w (K w.params) mg base CX0 10 fa fd ["_law_script"] (spLaw (K w.params))) :
    PySem.W.WalkO q loose XP YP l.row.toRowW d [] (fun f vs => PySem.call f vs) :=
  L2.walk_of (n := 63) (k := 10) (x := "_law_script") (CX := fun _ => CX0) (sp := fun w => spLaw (K w.params)) hn (by decide) hdf ⟨rfl, by decide, by decide⟩ hY F (fun _ _ a ns hl _ hS => ⟨a, ns, rfl, hS, hl, fun _ => rfl⟩) fun _ _ _ _ _ z => z

theorem UNIT_GROUP_UNIT : (10000000000000000000000000000000000000000000000000000000000000000 : Int) = 10 ^ 64 := by decide +kernel
set_option maxHeartbeats 3200000 in
theorem all_mk {l : PySem.W.OpenLaw} {w : World} {K : PySem.W.Frag} {h : Heap} {mg : Str → Option Value} {fa : Addr} (X : K.In h) (G : h.Ns mainGlobals mg) (hfa : mg "law" = some (.ref fa))
    {f_is_whole f_is_ratio f_as_ratio f_ratio_text f_integer_text f_read_ratio f_are_digits f_read_digits f_is_name f_table_text f_read_table f_limits_text f_limit_text f_read_limits f_parts_of f_all_read f_read_number f_read_entry f_read_limit f_read_bounds f_l_box f_l_mixed f_l_take f_l_shuffled f_l_names f_l_shared f_l_ratio f_l_before f_l_number f_l_given f_l_written f_l_end_text f_l_reading f_l_bad_part f_l_spoilt f_l_bent_right f_l_limit_of f_l_told_again f_law f_ratio T_ratio C_SheetError C_ZeroBottom C_InvalidNumber C_InvalidText C_BadText f_InvalidNumber_init f_InvalidText_init f_BadText_init Z_FUNCTION_WORDS : Addr}
    {od_is_whole : Option Addr}
    {an_is_whole : Option Addr}
    {sl_is_whole : Array (Option Value)}
    {oc_is_whole : Value}
    {kV_is_whole : Value}
    {dc_is_whole : Value}
    {pm_is_whole : Value}
    {cd_is_whole : Value}
    {ct_is_whole : Value}
    {od_is_ratio : Option Addr}
    {an_is_ratio : Option Addr}
    {sl_is_ratio : Array (Option Value)}
    {oc_is_ratio : Value}
    {kV_is_ratio : Value}
    {dc_is_ratio : Value}
    {pm_is_ratio : Value}
    {cd_is_ratio : Value}
    {ct_is_ratio : Value}
    {od_as_ratio : Option Addr}
    {an_as_ratio : Option Addr}
    {sl_as_ratio : Array (Option Value)}
    {oc_as_ratio : Value}
    {kV_as_ratio : Value}
    {dc_as_ratio : Value}
    {pm_as_ratio : Value}
    {cd_as_ratio : Value}
    {ct_as_ratio : Value}
    {od_ratio_text : Option Addr}
    {an_ratio_text : Option Addr}
    {sl_ratio_text : Array (Option Value)}
    {oc_ratio_text : Value}
    {kV_ratio_text : Value}
    {dc_ratio_text : Value}
    {pm_ratio_text : Value}
    {cd_ratio_text : Value}
    {ct_ratio_text : Value}
    {od_integer_text : Option Addr}
    {an_integer_text : Option Addr}
    {sl_integer_text : Array (Option Value)}
    {oc_integer_text : Value}
    {kV_integer_text : Value}
    {dc_integer_text : Value}
    {pm_integer_text : Value}
    {cd_integer_text : Value}
    {ct_integer_text : Value}
    {od_read_ratio : Option Addr}
    {an_read_ratio : Option Addr}
    {sl_read_ratio : Array (Option Value)}
    {oc_read_ratio : Value}
    {kV_read_ratio : Value}
    {dc_read_ratio : Value}
    {pm_read_ratio : Value}
    {cd_read_ratio : Value}
    {ct_read_ratio : Value}
    {od_are_digits : Option Addr}
    {an_are_digits : Option Addr}
    {sl_are_digits : Array (Option Value)}
    {oc_are_digits : Value}
    {kV_are_digits : Value}
    {dc_are_digits : Value}
    {pm_are_digits : Value}
    {cd_are_digits : Value}
    {ct_are_digits : Value}
    {od_read_digits : Option Addr}
    {an_read_digits : Option Addr}
    {sl_read_digits : Array (Option Value)}
    {oc_read_digits : Value}
    {kV_read_digits : Value}
    {dc_read_digits : Value}
    {pm_read_digits : Value}
    {cd_read_digits : Value}
    {ct_read_digits : Value}
    {od_is_name : Option Addr}
    {an_is_name : Option Addr}
    {sl_is_name : Array (Option Value)}
    {oc_is_name : Value}
    {kV_is_name : Value}
    {dc_is_name : Value}
    {pm_is_name : Value}
    {cd_is_name : Value}
    {ct_is_name : Value}
    {od_table_text : Option Addr}
    {an_table_text : Option Addr}
    {sl_table_text : Array (Option Value)}
    {oc_table_text : Value}
    {kV_table_text : Value}
    {dc_table_text : Value}
    {pm_table_text : Value}
    {cd_table_text : Value}
    {ct_table_text : Value}
    {od_read_table : Option Addr}
    {an_read_table : Option Addr}
    {sl_read_table : Array (Option Value)}
    {oc_read_table : Value}
    {kV_read_table : Value}
    {dc_read_table : Value}
    {pm_read_table : Value}
    {cd_read_table : Value}
    {ct_read_table : Value}
    {od_limits_text : Option Addr}
    {an_limits_text : Option Addr}
    {sl_limits_text : Array (Option Value)}
    {oc_limits_text : Value}
    {kV_limits_text : Value}
    {dc_limits_text : Value}
    {pm_limits_text : Value}
    {cd_limits_text : Value}
    {ct_limits_text : Value}
    {od_limit_text : Option Addr}
    {an_limit_text : Option Addr}
    {sl_limit_text : Array (Option Value)}
    {oc_limit_text : Value}
    {kV_limit_text : Value}
    {dc_limit_text : Value}
    {pm_limit_text : Value}
    {cd_limit_text : Value}
    {ct_limit_text : Value}
    {od_read_limits : Option Addr}
    {an_read_limits : Option Addr}
    {sl_read_limits : Array (Option Value)}
    {oc_read_limits : Value}
    {kV_read_limits : Value}
    {dc_read_limits : Value}
    {pm_read_limits : Value}
    {cd_read_limits : Value}
    {ct_read_limits : Value}
    {od_parts_of : Option Addr}
    {an_parts_of : Option Addr}
    {sl_parts_of : Array (Option Value)}
    {oc_parts_of : Value}
    {kV_parts_of : Value}
    {dc_parts_of : Value}
    {pm_parts_of : Value}
    {cd_parts_of : Value}
    {ct_parts_of : Value}
    {od_all_read : Option Addr}
    {an_all_read : Option Addr}
    {sl_all_read : Array (Option Value)}
    {oc_all_read : Value}
    {kV_all_read : Value}
    {dc_all_read : Value}
    {pm_all_read : Value}
    {cd_all_read : Value}
    {ct_all_read : Value}
    {od_read_number : Option Addr}
    {an_read_number : Option Addr}
    {sl_read_number : Array (Option Value)}
    {oc_read_number : Value}
    {kV_read_number : Value}
    {dc_read_number : Value}
    {pm_read_number : Value}
    {cd_read_number : Value}
    {ct_read_number : Value}
    {od_read_entry : Option Addr}
    {an_read_entry : Option Addr}
    {sl_read_entry : Array (Option Value)}
    {oc_read_entry : Value}
    {kV_read_entry : Value}
    {dc_read_entry : Value}
    {pm_read_entry : Value}
    {cd_read_entry : Value}
    {ct_read_entry : Value}
    {od_read_limit : Option Addr}
    {an_read_limit : Option Addr}
    {sl_read_limit : Array (Option Value)}
    {oc_read_limit : Value}
    {kV_read_limit : Value}
    {dc_read_limit : Value}
    {pm_read_limit : Value}
    {cd_read_limit : Value}
    {ct_read_limit : Value}
    {od_read_bounds : Option Addr}
    {an_read_bounds : Option Addr}
    {sl_read_bounds : Array (Option Value)}
    {oc_read_bounds : Value}
    {kV_read_bounds : Value}
    {dc_read_bounds : Value}
    {pm_read_bounds : Value}
    {cd_read_bounds : Value}
    {ct_read_bounds : Value}
    {od_l_box : Option Addr}
    {an_l_box : Option Addr}
    {sl_l_box : Array (Option Value)}
    {oc_l_box : Value}
    {kV_l_box : Value}
    {dc_l_box : Value}
    {pm_l_box : Value}
    {cd_l_box : Value}
    {ct_l_box : Value}
    {od_l_mixed : Option Addr}
    {an_l_mixed : Option Addr}
    {sl_l_mixed : Array (Option Value)}
    {oc_l_mixed : Value}
    {kV_l_mixed : Value}
    {dc_l_mixed : Value}
    {pm_l_mixed : Value}
    {cd_l_mixed : Value}
    {ct_l_mixed : Value}
    {od_l_take : Option Addr}
    {an_l_take : Option Addr}
    {sl_l_take : Array (Option Value)}
    {oc_l_take : Value}
    {kV_l_take : Value}
    {dc_l_take : Value}
    {pm_l_take : Value}
    {cd_l_take : Value}
    {ct_l_take : Value}
    {od_l_shuffled : Option Addr}
    {an_l_shuffled : Option Addr}
    {sl_l_shuffled : Array (Option Value)}
    {oc_l_shuffled : Value}
    {kV_l_shuffled : Value}
    {dc_l_shuffled : Value}
    {pm_l_shuffled : Value}
    {cd_l_shuffled : Value}
    {ct_l_shuffled : Value}
    {od_l_names : Option Addr}
    {an_l_names : Option Addr}
    {sl_l_names : Array (Option Value)}
    {oc_l_names : Value}
    {kV_l_names : Value}
    {dc_l_names : Value}
    {pm_l_names : Value}
    {cd_l_names : Value}
    {ct_l_names : Value}
    {od_l_shared : Option Addr}
    {an_l_shared : Option Addr}
    {sl_l_shared : Array (Option Value)}
    {oc_l_shared : Value}
    {kV_l_shared : Value}
    {dc_l_shared : Value}
    {pm_l_shared : Value}
    {cd_l_shared : Value}
    {ct_l_shared : Value}
    {od_l_ratio : Option Addr}
    {an_l_ratio : Option Addr}
    {sl_l_ratio : Array (Option Value)}
    {oc_l_ratio : Value}
    {kV_l_ratio : Value}
    {dc_l_ratio : Value}
    {pm_l_ratio : Value}
    {cd_l_ratio : Value}
    {ct_l_ratio : Value}
    {od_l_before : Option Addr}
    {an_l_before : Option Addr}
    {sl_l_before : Array (Option Value)}
    {oc_l_before : Value}
    {kV_l_before : Value}
    {dc_l_before : Value}
    {pm_l_before : Value}
    {cd_l_before : Value}
    {ct_l_before : Value}
    {od_l_number : Option Addr}
    {an_l_number : Option Addr}
    {sl_l_number : Array (Option Value)}
    {oc_l_number : Value}
    {kV_l_number : Value}
    {dc_l_number : Value}
    {pm_l_number : Value}
    {cd_l_number : Value}
    {ct_l_number : Value}
    {od_l_given : Option Addr}
    {an_l_given : Option Addr}
    {sl_l_given : Array (Option Value)}
    {oc_l_given : Value}
    {kV_l_given : Value}
    {dc_l_given : Value}
    {pm_l_given : Value}
    {cd_l_given : Value}
    {ct_l_given : Value}
    {od_l_written : Option Addr}
    {an_l_written : Option Addr}
    {sl_l_written : Array (Option Value)}
    {oc_l_written : Value}
    {kV_l_written : Value}
    {dc_l_written : Value}
    {pm_l_written : Value}
    {cd_l_written : Value}
    {ct_l_written : Value}
    {od_l_end_text : Option Addr}
    {an_l_end_text : Option Addr}
    {sl_l_end_text : Array (Option Value)}
    {oc_l_end_text : Value}
    {kV_l_end_text : Value}
    {dc_l_end_text : Value}
    {pm_l_end_text : Value}
    {cd_l_end_text : Value}
    {ct_l_end_text : Value}
    {od_l_reading : Option Addr}
    {an_l_reading : Option Addr}
    {sl_l_reading : Array (Option Value)}
    {oc_l_reading : Value}
    {kV_l_reading : Value}
    {dc_l_reading : Value}
    {pm_l_reading : Value}
    {cd_l_reading : Value}
    {ct_l_reading : Value}
    {od_l_bad_part : Option Addr}
    {an_l_bad_part : Option Addr}
    {sl_l_bad_part : Array (Option Value)}
    {oc_l_bad_part : Value}
    {kV_l_bad_part : Value}
    {dc_l_bad_part : Value}
    {pm_l_bad_part : Value}
    {cd_l_bad_part : Value}
    {ct_l_bad_part : Value}
    {od_l_spoilt : Option Addr}
    {an_l_spoilt : Option Addr}
    {sl_l_spoilt : Array (Option Value)}
    {oc_l_spoilt : Value}
    {kV_l_spoilt : Value}
    {dc_l_spoilt : Value}
    {pm_l_spoilt : Value}
    {cd_l_spoilt : Value}
    {ct_l_spoilt : Value}
    {od_l_bent_right : Option Addr}
    {an_l_bent_right : Option Addr}
    {sl_l_bent_right : Array (Option Value)}
    {oc_l_bent_right : Value}
    {kV_l_bent_right : Value}
    {dc_l_bent_right : Value}
    {pm_l_bent_right : Value}
    {cd_l_bent_right : Value}
    {ct_l_bent_right : Value}
    {od_l_limit_of : Option Addr}
    {an_l_limit_of : Option Addr}
    {sl_l_limit_of : Array (Option Value)}
    {oc_l_limit_of : Value}
    {kV_l_limit_of : Value}
    {dc_l_limit_of : Value}
    {pm_l_limit_of : Value}
    {cd_l_limit_of : Value}
    {ct_l_limit_of : Value}
    {od_l_told_again : Option Addr}
    {an_l_told_again : Option Addr}
    {sl_l_told_again : Array (Option Value)}
    {oc_l_told_again : Value}
    {kV_l_told_again : Value}
    {dc_l_told_again : Value}
    {pm_l_told_again : Value}
    {cd_l_told_again : Value}
    {ct_l_told_again : Value}
    {od_law : Option Addr}
    {an_law : Option Addr}
    {sl_law : Array (Option Value)}
    {oc_law : Value}
    {kV_law : Value}
    {dc_law : Value}
    {pm_law : Value}
    {cd_law : Value}
    {ct_law : Value}
    {od_ratio : Option Addr}
    {an_ratio : Option Addr}
    {sl_ratio : Array (Option Value)}
    {oc_ratio : Value}
    {kV_ratio : Value}
    {dc_ratio : Value}
    {pm_ratio : Value}
    {cd_ratio : Value}
    {ct_ratio : Value}
    {to_ratio : Value}
    {td_ratio : Option Addr}
    {tn_ratio : Nat}
    {ts_ratio : Array (Option Value)}
    {tt_ratio : Tok}
    {nm_InvalidNumber q_InvalidNumber : Str}
    {N_InvalidNumber : Addr}
    {bs_InvalidNumber : List Value}
    {sn_InvalidNumber : List Str}
    {sub_InvalidNumber : List Value}
    {ab_InvalidNumber : Bool}
    {col_InvalidNumber : Option Bool}
    {dd_InvalidNumber : Option Addr}
    {m0_InvalidNumber m1_InvalidNumber m2_InvalidNumber m3_InvalidNumber m5_InvalidNumber : Option Value}
    {od_InvalidNumber_init : Option Addr}
    {an_InvalidNumber_init : Option Addr}
    {sl_InvalidNumber_init : Array (Option Value)}
    {oc_InvalidNumber_init : Value}
    {kV_InvalidNumber_init : Value}
    {dc_InvalidNumber_init : Value}
    {pm_InvalidNumber_init : Value}
    {cd_InvalidNumber_init : Value}
    {ct_InvalidNumber_init : Value}
    {nm_InvalidText q_InvalidText : Str}
    {N_InvalidText : Addr}
    {bs_InvalidText : List Value}
    {sn_InvalidText : List Str}
    {sub_InvalidText : List Value}
    {ab_InvalidText : Bool}
    {col_InvalidText : Option Bool}
    {dd_InvalidText : Option Addr}
    {m0_InvalidText m1_InvalidText m2_InvalidText m3_InvalidText m5_InvalidText : Option Value}
    {od_InvalidText_init : Option Addr}
    {an_InvalidText_init : Option Addr}
    {sl_InvalidText_init : Array (Option Value)}
    {oc_InvalidText_init : Value}
    {kV_InvalidText_init : Value}
    {dc_InvalidText_init : Value}
    {pm_InvalidText_init : Value}
    {cd_InvalidText_init : Value}
    {ct_InvalidText_init : Value}
    {nm_BadText q_BadText : Str}
    {N_BadText : Addr}
    {bs_BadText : List Value}
    {sn_BadText : List Str}
    {sub_BadText : List Value}
    {ab_BadText : Bool}
    {col_BadText : Option Bool}
    {dd_BadText : Option Addr}
    {m0_BadText m1_BadText m2_BadText m3_BadText m5_BadText : Option Value}
    {od_BadText_init : Option Addr}
    {an_BadText_init : Option Addr}
    {sl_BadText_init : Array (Option Value)}
    {oc_BadText_init : Value}
    {kV_BadText_init : Value}
    {dc_BadText_init : Value}
    {pm_BadText_init : Value}
    {cd_BadText_init : Value}
    {ct_BadText_init : Value}
    {tk_GROUP_UNIT : Tok}
    {tk_GROUP_DIGITS : Tok}
    {tk_NAME_LETTERS : Tok}
    {tz0_FUNCTION_WORDS : Tok}
    {tz1_FUNCTION_WORDS : Tok}
    {dz_FUNCTION_WORDS : Option Addr}
    {nz_FUNCTION_WORDS : Nat}
    {sz_FUNCTION_WORDS : Array (Option Value)}
    (a_is_whole : PySem.W.nsIn K mainGlobals "is_whole" = some (some (.ref f_is_whole)))
    (l_is_whole : K.lookup f_is_whole = some ⟨oc_is_whole, od_is_whole, .func (PySem.W.fnOf "is_whole" "is_whole" (defArgs s_is_whole) (defBody s_is_whole) (defScope s_is_whole) .none kV_is_whole dc_is_whole pm_is_whole an_is_whole cd_is_whole ct_is_whole), sl_is_whole⟩)
    (c_is_whole : PySem.W.codeIn K cd_is_whole "is_whole" = true)
    (k_is_whole : PySem.W.keepIn K (.ref f_is_whole) = true)
    (a_is_ratio : PySem.W.nsIn K mainGlobals "is_ratio" = some (some (.ref f_is_ratio)))
    (l_is_ratio : K.lookup f_is_ratio = some ⟨oc_is_ratio, od_is_ratio, .func (PySem.W.fnOf "is_ratio" "is_ratio" (defArgs s_is_ratio) (defBody s_is_ratio) (defScope s_is_ratio) .none kV_is_ratio dc_is_ratio pm_is_ratio an_is_ratio cd_is_ratio ct_is_ratio), sl_is_ratio⟩)
    (c_is_ratio : PySem.W.codeIn K cd_is_ratio "is_ratio" = true)
    (k_is_ratio : PySem.W.keepIn K (.ref f_is_ratio) = true)
    (a_as_ratio : PySem.W.nsIn K mainGlobals "as_ratio" = some (some (.ref f_as_ratio)))
    (l_as_ratio : K.lookup f_as_ratio = some ⟨oc_as_ratio, od_as_ratio, .func (PySem.W.fnOf "as_ratio" "as_ratio" (defArgs s_as_ratio) (defBody s_as_ratio) (defScope s_as_ratio) .none kV_as_ratio dc_as_ratio pm_as_ratio an_as_ratio cd_as_ratio ct_as_ratio), sl_as_ratio⟩)
    (c_as_ratio : PySem.W.codeIn K cd_as_ratio "as_ratio" = true)
    (k_as_ratio : PySem.W.keepIn K (.ref f_as_ratio) = true)
    (a_ratio_text : PySem.W.nsIn K mainGlobals "ratio_text" = some (some (.ref f_ratio_text)))
    (l_ratio_text : K.lookup f_ratio_text = some ⟨oc_ratio_text, od_ratio_text, .func (PySem.W.fnOf "ratio_text" "ratio_text" (defArgs s_ratio_text) (defBody s_ratio_text) (defScope s_ratio_text) .none kV_ratio_text dc_ratio_text pm_ratio_text an_ratio_text cd_ratio_text ct_ratio_text), sl_ratio_text⟩)
    (c_ratio_text : PySem.W.codeIn K cd_ratio_text "ratio_text" = true)
    (k_ratio_text : PySem.W.keepIn K (.ref f_ratio_text) = true)
    (a_integer_text : PySem.W.nsIn K mainGlobals "integer_text" = some (some (.ref f_integer_text)))
    (l_integer_text : K.lookup f_integer_text = some ⟨oc_integer_text, od_integer_text, .func (PySem.W.fnOf "integer_text" "integer_text" (defArgs s_integer_text) (defBody s_integer_text) (defScope s_integer_text) .none kV_integer_text dc_integer_text pm_integer_text an_integer_text cd_integer_text ct_integer_text), sl_integer_text⟩)
    (c_integer_text : PySem.W.codeIn K cd_integer_text "integer_text" = true)
    (k_integer_text : PySem.W.keepIn K (.ref f_integer_text) = true)
    (a_read_ratio : PySem.W.nsIn K mainGlobals "read_ratio" = some (some (.ref f_read_ratio)))
    (l_read_ratio : K.lookup f_read_ratio = some ⟨oc_read_ratio, od_read_ratio, .func (PySem.W.fnOf "read_ratio" "read_ratio" (defArgs s_read_ratio) (defBody s_read_ratio) (defScope s_read_ratio) .none kV_read_ratio dc_read_ratio pm_read_ratio an_read_ratio cd_read_ratio ct_read_ratio), sl_read_ratio⟩)
    (c_read_ratio : PySem.W.codeIn K cd_read_ratio "read_ratio" = true)
    (k_read_ratio : PySem.W.keepIn K (.ref f_read_ratio) = true)
    (a_are_digits : PySem.W.nsIn K mainGlobals "are_digits" = some (some (.ref f_are_digits)))
    (l_are_digits : K.lookup f_are_digits = some ⟨oc_are_digits, od_are_digits, .func (PySem.W.fnOf "are_digits" "are_digits" (defArgs s_are_digits) (defBody s_are_digits) (defScope s_are_digits) .none kV_are_digits dc_are_digits pm_are_digits an_are_digits cd_are_digits ct_are_digits), sl_are_digits⟩)
    (c_are_digits : PySem.W.codeIn K cd_are_digits "are_digits" = true)
    (k_are_digits : PySem.W.keepIn K (.ref f_are_digits) = true)
    (a_read_digits : PySem.W.nsIn K mainGlobals "read_digits" = some (some (.ref f_read_digits)))
    (l_read_digits : K.lookup f_read_digits = some ⟨oc_read_digits, od_read_digits, .func (PySem.W.fnOf "read_digits" "read_digits" (defArgs s_read_digits) (defBody s_read_digits) (defScope s_read_digits) .none kV_read_digits dc_read_digits pm_read_digits an_read_digits cd_read_digits ct_read_digits), sl_read_digits⟩)
    (c_read_digits : PySem.W.codeIn K cd_read_digits "read_digits" = true)
    (k_read_digits : PySem.W.keepIn K (.ref f_read_digits) = true)
    (a_is_name : PySem.W.nsIn K mainGlobals "is_name" = some (some (.ref f_is_name)))
    (l_is_name : K.lookup f_is_name = some ⟨oc_is_name, od_is_name, .func (PySem.W.fnOf "is_name" "is_name" (defArgs s_is_name) (defBody s_is_name) (defScope s_is_name) .none kV_is_name dc_is_name pm_is_name an_is_name cd_is_name ct_is_name), sl_is_name⟩)
    (c_is_name : PySem.W.codeIn K cd_is_name "is_name" = true)
    (k_is_name : PySem.W.keepIn K (.ref f_is_name) = true)
    (a_table_text : PySem.W.nsIn K mainGlobals "table_text" = some (some (.ref f_table_text)))
    (l_table_text : K.lookup f_table_text = some ⟨oc_table_text, od_table_text, .func (PySem.W.fnOf "table_text" "table_text" (defArgs s_table_text) (defBody s_table_text) (defScope s_table_text) .none kV_table_text dc_table_text pm_table_text an_table_text cd_table_text ct_table_text), sl_table_text⟩)
    (c_table_text : PySem.W.codeIn K cd_table_text "table_text" = true)
    (k_table_text : PySem.W.keepIn K (.ref f_table_text) = true)
    (a_read_table : PySem.W.nsIn K mainGlobals "read_table" = some (some (.ref f_read_table)))
    (l_read_table : K.lookup f_read_table = some ⟨oc_read_table, od_read_table, .func (PySem.W.fnOf "read_table" "read_table" (defArgs s_read_table) (defBody s_read_table) (defScope s_read_table) .none kV_read_table dc_read_table pm_read_table an_read_table cd_read_table ct_read_table), sl_read_table⟩)
    (c_read_table : PySem.W.codeIn K cd_read_table "read_table" = true)
    (k_read_table : PySem.W.keepIn K (.ref f_read_table) = true)
    (a_limits_text : PySem.W.nsIn K mainGlobals "limits_text" = some (some (.ref f_limits_text)))
    (l_limits_text : K.lookup f_limits_text = some ⟨oc_limits_text, od_limits_text, .func (PySem.W.fnOf "limits_text" "limits_text" (defArgs s_limits_text) (defBody s_limits_text) (defScope s_limits_text) .none kV_limits_text dc_limits_text pm_limits_text an_limits_text cd_limits_text ct_limits_text), sl_limits_text⟩)
    (c_limits_text : PySem.W.codeIn K cd_limits_text "limits_text" = true)
    (k_limits_text : PySem.W.keepIn K (.ref f_limits_text) = true)
    (a_limit_text : PySem.W.nsIn K mainGlobals "limit_text" = some (some (.ref f_limit_text)))
    (l_limit_text : K.lookup f_limit_text = some ⟨oc_limit_text, od_limit_text, .func (PySem.W.fnOf "limit_text" "limit_text" (defArgs s_limit_text) (defBody s_limit_text) (defScope s_limit_text) .none kV_limit_text dc_limit_text pm_limit_text an_limit_text cd_limit_text ct_limit_text), sl_limit_text⟩)
    (c_limit_text : PySem.W.codeIn K cd_limit_text "limit_text" = true)
    (k_limit_text : PySem.W.keepIn K (.ref f_limit_text) = true)
    (a_read_limits : PySem.W.nsIn K mainGlobals "read_limits" = some (some (.ref f_read_limits)))
    (l_read_limits : K.lookup f_read_limits = some ⟨oc_read_limits, od_read_limits, .func (PySem.W.fnOf "read_limits" "read_limits" (defArgs s_read_limits) (defBody s_read_limits) (defScope s_read_limits) .none kV_read_limits dc_read_limits pm_read_limits an_read_limits cd_read_limits ct_read_limits), sl_read_limits⟩)
    (c_read_limits : PySem.W.codeIn K cd_read_limits "read_limits" = true)
    (k_read_limits : PySem.W.keepIn K (.ref f_read_limits) = true)
    (a_parts_of : PySem.W.nsIn K mainGlobals "parts_of" = some (some (.ref f_parts_of)))
    (l_parts_of : K.lookup f_parts_of = some ⟨oc_parts_of, od_parts_of, .func (PySem.W.fnOf "parts_of" "parts_of" (defArgs s_parts_of) (defBody s_parts_of) (defScope s_parts_of) .none kV_parts_of dc_parts_of pm_parts_of an_parts_of cd_parts_of ct_parts_of), sl_parts_of⟩)
    (c_parts_of : PySem.W.codeIn K cd_parts_of "parts_of" = true)
    (k_parts_of : PySem.W.keepIn K (.ref f_parts_of) = true)
    (a_all_read : PySem.W.nsIn K mainGlobals "all_read" = some (some (.ref f_all_read)))
    (l_all_read : K.lookup f_all_read = some ⟨oc_all_read, od_all_read, .func (PySem.W.fnOf "all_read" "all_read" (defArgs s_all_read) (defBody s_all_read) (defScope s_all_read) .none kV_all_read dc_all_read pm_all_read an_all_read cd_all_read ct_all_read), sl_all_read⟩)
    (c_all_read : PySem.W.codeIn K cd_all_read "all_read" = true)
    (k_all_read : PySem.W.keepIn K (.ref f_all_read) = true)
    (a_read_number : PySem.W.nsIn K mainGlobals "read_number" = some (some (.ref f_read_number)))
    (l_read_number : K.lookup f_read_number = some ⟨oc_read_number, od_read_number, .func (PySem.W.fnOf "read_number" "read_number" (defArgs s_read_number) (defBody s_read_number) (defScope s_read_number) .none kV_read_number dc_read_number pm_read_number an_read_number cd_read_number ct_read_number), sl_read_number⟩)
    (c_read_number : PySem.W.codeIn K cd_read_number "read_number" = true)
    (k_read_number : PySem.W.keepIn K (.ref f_read_number) = true)
    (a_read_entry : PySem.W.nsIn K mainGlobals "read_entry" = some (some (.ref f_read_entry)))
    (l_read_entry : K.lookup f_read_entry = some ⟨oc_read_entry, od_read_entry, .func (PySem.W.fnOf "read_entry" "read_entry" (defArgs s_read_entry) (defBody s_read_entry) (defScope s_read_entry) .none kV_read_entry dc_read_entry pm_read_entry an_read_entry cd_read_entry ct_read_entry), sl_read_entry⟩)
    (c_read_entry : PySem.W.codeIn K cd_read_entry "read_entry" = true)
    (k_read_entry : PySem.W.keepIn K (.ref f_read_entry) = true)
    (a_read_limit : PySem.W.nsIn K mainGlobals "read_limit" = some (some (.ref f_read_limit)))
    (l_read_limit : K.lookup f_read_limit = some ⟨oc_read_limit, od_read_limit, .func (PySem.W.fnOf "read_limit" "read_limit" (defArgs s_read_limit) (defBody s_read_limit) (defScope s_read_limit) .none kV_read_limit dc_read_limit pm_read_limit an_read_limit cd_read_limit ct_read_limit), sl_read_limit⟩)
    (c_read_limit : PySem.W.codeIn K cd_read_limit "read_limit" = true)
    (k_read_limit : PySem.W.keepIn K (.ref f_read_limit) = true)
    (a_read_bounds : PySem.W.nsIn K mainGlobals "read_bounds" = some (some (.ref f_read_bounds)))
    (l_read_bounds : K.lookup f_read_bounds = some ⟨oc_read_bounds, od_read_bounds, .func (PySem.W.fnOf "read_bounds" "read_bounds" (defArgs s_read_bounds) (defBody s_read_bounds) (defScope s_read_bounds) .none kV_read_bounds dc_read_bounds pm_read_bounds an_read_bounds cd_read_bounds ct_read_bounds), sl_read_bounds⟩)
    (c_read_bounds : PySem.W.codeIn K cd_read_bounds "read_bounds" = true)
    (k_read_bounds : PySem.W.keepIn K (.ref f_read_bounds) = true)
    (a_l_box : PySem.W.nsIn K mainGlobals "_law_box" = some (some (.ref f_l_box)))
    (l_l_box : K.lookup f_l_box = some ⟨oc_l_box, od_l_box, .func (PySem.W.fnOf "_law_box" "_law_box" (defArgs s_l_box) (defBody s_l_box) (defScope s_l_box) .none kV_l_box dc_l_box pm_l_box an_l_box cd_l_box ct_l_box), sl_l_box⟩)
    (c_l_box : PySem.W.codeIn K cd_l_box "_law_box" = true)
    (k_l_box : PySem.W.keepIn K (.ref f_l_box) = true)
    (a_l_mixed : PySem.W.nsIn K mainGlobals "_law_mixed" = some (some (.ref f_l_mixed)))
    (l_l_mixed : K.lookup f_l_mixed = some ⟨oc_l_mixed, od_l_mixed, .func (PySem.W.fnOf "_law_mixed" "_law_mixed" (defArgs s_l_mixed) (defBody s_l_mixed) (defScope s_l_mixed) .none kV_l_mixed dc_l_mixed pm_l_mixed an_l_mixed cd_l_mixed ct_l_mixed), sl_l_mixed⟩)
    (c_l_mixed : PySem.W.codeIn K cd_l_mixed "_law_mixed" = true)
    (k_l_mixed : PySem.W.keepIn K (.ref f_l_mixed) = true)
    (a_l_take : PySem.W.nsIn K mainGlobals "_law_take" = some (some (.ref f_l_take)))
    (l_l_take : K.lookup f_l_take = some ⟨oc_l_take, od_l_take, .func (PySem.W.fnOf "_law_take" "_law_take" (defArgs s_l_take) (defBody s_l_take) (defScope s_l_take) .none kV_l_take dc_l_take pm_l_take an_l_take cd_l_take ct_l_take), sl_l_take⟩)
    (c_l_take : PySem.W.codeIn K cd_l_take "_law_take" = true)
    (k_l_take : PySem.W.keepIn K (.ref f_l_take) = true)
    (a_l_shuffled : PySem.W.nsIn K mainGlobals "_law_shuffled" = some (some (.ref f_l_shuffled)))
    (l_l_shuffled : K.lookup f_l_shuffled = some ⟨oc_l_shuffled, od_l_shuffled, .func (PySem.W.fnOf "_law_shuffled" "_law_shuffled" (defArgs s_l_shuffled) (defBody s_l_shuffled) (defScope s_l_shuffled) .none kV_l_shuffled dc_l_shuffled pm_l_shuffled an_l_shuffled cd_l_shuffled ct_l_shuffled), sl_l_shuffled⟩)
    (c_l_shuffled : PySem.W.codeIn K cd_l_shuffled "_law_shuffled" = true)
    (k_l_shuffled : PySem.W.keepIn K (.ref f_l_shuffled) = true)
    (a_l_names : PySem.W.nsIn K mainGlobals "_law_names" = some (some (.ref f_l_names)))
    (l_l_names : K.lookup f_l_names = some ⟨oc_l_names, od_l_names, .func (PySem.W.fnOf "_law_names" "_law_names" (defArgs s_l_names) (defBody s_l_names) (defScope s_l_names) .none kV_l_names dc_l_names pm_l_names an_l_names cd_l_names ct_l_names), sl_l_names⟩)
    (c_l_names : PySem.W.codeIn K cd_l_names "_law_names" = true)
    (k_l_names : PySem.W.keepIn K (.ref f_l_names) = true)
    (a_l_shared : PySem.W.nsIn K mainGlobals "_law_shared" = some (some (.ref f_l_shared)))
    (l_l_shared : K.lookup f_l_shared = some ⟨oc_l_shared, od_l_shared, .func (PySem.W.fnOf "_law_shared" "_law_shared" (defArgs s_l_shared) (defBody s_l_shared) (defScope s_l_shared) .none kV_l_shared dc_l_shared pm_l_shared an_l_shared cd_l_shared ct_l_shared), sl_l_shared⟩)
    (c_l_shared : PySem.W.codeIn K cd_l_shared "_law_shared" = true)
    (k_l_shared : PySem.W.keepIn K (.ref f_l_shared) = true)
    (a_l_ratio : PySem.W.nsIn K mainGlobals "_law_ratio" = some (some (.ref f_l_ratio)))
    (l_l_ratio : K.lookup f_l_ratio = some ⟨oc_l_ratio, od_l_ratio, .func (PySem.W.fnOf "_law_ratio" "_law_ratio" (defArgs s_l_ratio) (defBody s_l_ratio) (defScope s_l_ratio) .none kV_l_ratio dc_l_ratio pm_l_ratio an_l_ratio cd_l_ratio ct_l_ratio), sl_l_ratio⟩)
    (c_l_ratio : PySem.W.codeIn K cd_l_ratio "_law_ratio" = true)
    (k_l_ratio : PySem.W.keepIn K (.ref f_l_ratio) = true)
    (a_l_before : PySem.W.nsIn K mainGlobals "_law_before" = some (some (.ref f_l_before)))
    (l_l_before : K.lookup f_l_before = some ⟨oc_l_before, od_l_before, .func (PySem.W.fnOf "_law_before" "_law_before" (defArgs s_l_before) (defBody s_l_before) (defScope s_l_before) .none kV_l_before dc_l_before pm_l_before an_l_before cd_l_before ct_l_before), sl_l_before⟩)
    (c_l_before : PySem.W.codeIn K cd_l_before "_law_before" = true)
    (k_l_before : PySem.W.keepIn K (.ref f_l_before) = true)
    (a_l_number : PySem.W.nsIn K mainGlobals "_law_number" = some (some (.ref f_l_number)))
    (l_l_number : K.lookup f_l_number = some ⟨oc_l_number, od_l_number, .func (PySem.W.fnOf "_law_number" "_law_number" (defArgs s_l_number) (defBody s_l_number) (defScope s_l_number) .none kV_l_number dc_l_number pm_l_number an_l_number cd_l_number ct_l_number), sl_l_number⟩)
    (c_l_number : PySem.W.codeIn K cd_l_number "_law_number" = true)
    (k_l_number : PySem.W.keepIn K (.ref f_l_number) = true)
    (a_l_given : PySem.W.nsIn K mainGlobals "_law_given" = some (some (.ref f_l_given)))
    (l_l_given : K.lookup f_l_given = some ⟨oc_l_given, od_l_given, .func (PySem.W.fnOf "_law_given" "_law_given" (defArgs s_l_given) (defBody s_l_given) (defScope s_l_given) .none kV_l_given dc_l_given pm_l_given an_l_given cd_l_given ct_l_given), sl_l_given⟩)
    (c_l_given : PySem.W.codeIn K cd_l_given "_law_given" = true)
    (k_l_given : PySem.W.keepIn K (.ref f_l_given) = true)
    (a_l_written : PySem.W.nsIn K mainGlobals "_law_written" = some (some (.ref f_l_written)))
    (l_l_written : K.lookup f_l_written = some ⟨oc_l_written, od_l_written, .func (PySem.W.fnOf "_law_written" "_law_written" (defArgs s_l_written) (defBody s_l_written) (defScope s_l_written) .none kV_l_written dc_l_written pm_l_written an_l_written cd_l_written ct_l_written), sl_l_written⟩)
    (c_l_written : PySem.W.codeIn K cd_l_written "_law_written" = true)
    (k_l_written : PySem.W.keepIn K (.ref f_l_written) = true)
    (a_l_end_text : PySem.W.nsIn K mainGlobals "_law_end_text" = some (some (.ref f_l_end_text)))
    (l_l_end_text : K.lookup f_l_end_text = some ⟨oc_l_end_text, od_l_end_text, .func (PySem.W.fnOf "_law_end_text" "_law_end_text" (defArgs s_l_end_text) (defBody s_l_end_text) (defScope s_l_end_text) .none kV_l_end_text dc_l_end_text pm_l_end_text an_l_end_text cd_l_end_text ct_l_end_text), sl_l_end_text⟩)
    (c_l_end_text : PySem.W.codeIn K cd_l_end_text "_law_end_text" = true)
    (k_l_end_text : PySem.W.keepIn K (.ref f_l_end_text) = true)
    (a_l_reading : PySem.W.nsIn K mainGlobals "_law_reading" = some (some (.ref f_l_reading)))
    (l_l_reading : K.lookup f_l_reading = some ⟨oc_l_reading, od_l_reading, .func (PySem.W.fnOf "_law_reading" "_law_reading" (defArgs s_l_reading) (defBody s_l_reading) (defScope s_l_reading) .none kV_l_reading dc_l_reading pm_l_reading an_l_reading cd_l_reading ct_l_reading), sl_l_reading⟩)
    (c_l_reading : PySem.W.codeIn K cd_l_reading "_law_reading" = true)
    (k_l_reading : PySem.W.keepIn K (.ref f_l_reading) = true)
    (a_l_bad_part : PySem.W.nsIn K mainGlobals "_law_bad_part" = some (some (.ref f_l_bad_part)))
    (l_l_bad_part : K.lookup f_l_bad_part = some ⟨oc_l_bad_part, od_l_bad_part, .func (PySem.W.fnOf "_law_bad_part" "_law_bad_part" (defArgs s_l_bad_part) (defBody s_l_bad_part) (defScope s_l_bad_part) .none kV_l_bad_part dc_l_bad_part pm_l_bad_part an_l_bad_part cd_l_bad_part ct_l_bad_part), sl_l_bad_part⟩)
    (c_l_bad_part : PySem.W.codeIn K cd_l_bad_part "_law_bad_part" = true)
    (k_l_bad_part : PySem.W.keepIn K (.ref f_l_bad_part) = true)
    (a_l_spoilt : PySem.W.nsIn K mainGlobals "_law_spoilt" = some (some (.ref f_l_spoilt)))
    (l_l_spoilt : K.lookup f_l_spoilt = some ⟨oc_l_spoilt, od_l_spoilt, .func (PySem.W.fnOf "_law_spoilt" "_law_spoilt" (defArgs s_l_spoilt) (defBody s_l_spoilt) (defScope s_l_spoilt) .none kV_l_spoilt dc_l_spoilt pm_l_spoilt an_l_spoilt cd_l_spoilt ct_l_spoilt), sl_l_spoilt⟩)
    (c_l_spoilt : PySem.W.codeIn K cd_l_spoilt "_law_spoilt" = true)
    (k_l_spoilt : PySem.W.keepIn K (.ref f_l_spoilt) = true)
    (a_l_bent_right : PySem.W.nsIn K mainGlobals "_law_bent_right" = some (some (.ref f_l_bent_right)))
    (l_l_bent_right : K.lookup f_l_bent_right = some ⟨oc_l_bent_right, od_l_bent_right, .func (PySem.W.fnOf "_law_bent_right" "_law_bent_right" (defArgs s_l_bent_right) (defBody s_l_bent_right) (defScope s_l_bent_right) .none kV_l_bent_right dc_l_bent_right pm_l_bent_right an_l_bent_right cd_l_bent_right ct_l_bent_right), sl_l_bent_right⟩)
    (c_l_bent_right : PySem.W.codeIn K cd_l_bent_right "_law_bent_right" = true)
    (k_l_bent_right : PySem.W.keepIn K (.ref f_l_bent_right) = true)
    (a_l_limit_of : PySem.W.nsIn K mainGlobals "_law_limit_of" = some (some (.ref f_l_limit_of)))
    (l_l_limit_of : K.lookup f_l_limit_of = some ⟨oc_l_limit_of, od_l_limit_of, .func (PySem.W.fnOf "_law_limit_of" "_law_limit_of" (defArgs s_l_limit_of) (defBody s_l_limit_of) (defScope s_l_limit_of) .none kV_l_limit_of dc_l_limit_of pm_l_limit_of an_l_limit_of cd_l_limit_of ct_l_limit_of), sl_l_limit_of⟩)
    (c_l_limit_of : PySem.W.codeIn K cd_l_limit_of "_law_limit_of" = true)
    (k_l_limit_of : PySem.W.keepIn K (.ref f_l_limit_of) = true)
    (a_l_told_again : PySem.W.nsIn K mainGlobals "_law_told_again" = some (some (.ref f_l_told_again)))
    (l_l_told_again : K.lookup f_l_told_again = some ⟨oc_l_told_again, od_l_told_again, .func (PySem.W.fnOf "_law_told_again" "_law_told_again" (defArgs s_l_told_again) (defBody s_l_told_again) (defScope s_l_told_again) .none kV_l_told_again dc_l_told_again pm_l_told_again an_l_told_again cd_l_told_again ct_l_told_again), sl_l_told_again⟩)
    (c_l_told_again : PySem.W.codeIn K cd_l_told_again "_law_told_again" = true)
    (k_l_told_again : PySem.W.keepIn K (.ref f_l_told_again) = true)
    (a_law : PySem.W.nsIn K mainGlobals "law" = some (some (.ref f_law)))
    (l_law : K.lookup f_law = some ⟨oc_law, od_law, .func (PySem.W.fnOf "law" "law" (defArgs s_law) (defBody s_law) (defScope s_law) .none kV_law dc_law pm_law an_law cd_law ct_law), sl_law⟩)
    (c_law : PySem.W.codeIn K cd_law "law" = true)
    (k_law : PySem.W.keepIn K (.ref f_law) = true)
    (a_ratio : PySem.W.nsIn K mainGlobals "ratio" = some (some (.ref f_ratio)))
    (l_ratio : K.lookup f_ratio = some ⟨oc_ratio, od_ratio, .func (PySem.W.fnOf "ratio" "ratio" (defArgs s_ratio) (defBody s_ratio) (defScope s_ratio) (.ref T_ratio) kV_ratio dc_ratio pm_ratio an_ratio cd_ratio ct_ratio), sl_ratio⟩)
    (c_ratio : PySem.W.codeIn K cd_ratio "ratio" = true)
    (k_ratio : PySem.W.keepIn K (.ref f_ratio) = true)
    (t_ratio : K.lookup T_ratio = some ⟨to_ratio, td_ratio, .seq #[.int 1 tt_ratio] tn_ratio, ts_ratio⟩)
    (aC_SheetError : PySem.W.nsIn K mainGlobals "SheetError" = some (some (.ref C_SheetError)))
    (aC_ZeroBottom : PySem.W.nsIn K mainGlobals "ZeroBottom" = some (some (.ref C_ZeroBottom)))
    (aC_InvalidNumber : PySem.W.nsIn K mainGlobals "InvalidNumber" = some (some (.ref C_InvalidNumber)))
    (aC_InvalidText : PySem.W.nsIn K mainGlobals "InvalidText" = some (some (.ref C_InvalidText)))
    (aC_BadText : PySem.W.nsIn K mainGlobals "BadText" = some (some (.ref C_BadText)))
    (special : PySem.W.specialIn K (.builtin "object.__class__") "__get__" = some (some (.builtin "getset_descriptor.__get__")))
    (takes : PySem.W.takesIn K (.builtin "object.__class__") = some true)
    (kS_ZeroBottom : PySem.W.kitOne K (.ref C_ZeroBottom) (.ref C_SheetError) = some true)
    (ga_ZeroBottom : PySem.W.findIn K (.ref C_ZeroBottom) "__getattribute__" = some (some (.builtin "BaseException.__getattribute__")))
    (gg_ZeroBottom : PySem.W.findIn K (.ref C_ZeroBottom) "__getattr__" = some none)
    (sb_ZeroBottom : PySem.W.subIn K (.ref C_ZeroBottom) (.type "BaseException") = some true)
    (hd_ZeroBottom : PySem.W.hasDictIn K C_ZeroBottom = true)
    (ha_ZeroBottom : PySem.W.findIn K (.ref C_ZeroBottom) "__class__" = some (some (.builtin "object.__class__")))
    (hm_ZeroBottom : PySem.W.mroIn K C_ZeroBottom (.type "object") = some true)
    (ty_ZeroBottom : PySem.W.typeIn K (.ref C_ZeroBottom) = some (.type "type"))
    (kp_ZeroBottom : PySem.W.keepIn K (.ref C_ZeroBottom) = true)
    (ex_ZeroBottom : PySem.W.exmOne K (.ref C_ZeroBottom) (.ref C_ZeroBottom) = some true)
    (xp_ZeroBottom : PySem.W.excIn K C_ZeroBottom [.type "ValueError", .type "Exception", .type "BaseException", .type "object"] "ValueError.__new__" = true)
    (kS_InvalidNumber : PySem.W.kitOne K (.ref C_InvalidNumber) (.ref C_SheetError) = some true)
    (ga_InvalidNumber : PySem.W.findIn K (.ref C_InvalidNumber) "__getattribute__" = some (some (.builtin "BaseException.__getattribute__")))
    (gg_InvalidNumber : PySem.W.findIn K (.ref C_InvalidNumber) "__getattr__" = some none)
    (sb_InvalidNumber : PySem.W.subIn K (.ref C_InvalidNumber) (.type "BaseException") = some true)
    (hd_InvalidNumber : PySem.W.hasDictIn K C_InvalidNumber = true)
    (ha_InvalidNumber : PySem.W.findIn K (.ref C_InvalidNumber) "__class__" = some (some (.builtin "object.__class__")))
    (hm_InvalidNumber : PySem.W.mroIn K C_InvalidNumber (.type "object") = some true)
    (ty_InvalidNumber : PySem.W.typeIn K (.ref C_InvalidNumber) = some (.type "type"))
    (kp_InvalidNumber : PySem.W.keepIn K (.ref C_InvalidNumber) = true)
    (ex_InvalidNumber : PySem.W.exmOne K (.ref C_InvalidNumber) (.ref C_InvalidNumber) = some true)
    (x_InvalidNumber : K.lookup C_InvalidNumber = some (excClassObj nm_InvalidNumber q_InvalidNumber C_InvalidNumber N_InvalidNumber bs_InvalidNumber [.ref C_SheetError, .type "ValueError", .type "Exception", .type "BaseException", .type "object"] true sn_InvalidNumber sub_InvalidNumber ab_InvalidNumber col_InvalidNumber dd_InvalidNumber m0_InvalidNumber m1_InvalidNumber m2_InvalidNumber m3_InvalidNumber m5_InvalidNumber "ValueError.__new__"))
    (sa_InvalidNumber : PySem.W.findIn K (.ref C_InvalidNumber) "__setattr__" = some (some (.builtin "object.__setattr__")))
    (no_InvalidNumber : PySem.W.findIn K (.ref C_InvalidNumber) "value" = some none)
    (i_InvalidNumber : PySem.W.findIn K (.ref C_InvalidNumber) "__init__" = some (some (.ref f_InvalidNumber_init)))
    (ti_InvalidNumber : PySem.W.typeIn K (.ref f_InvalidNumber_init) = some (.type "function"))
    (l_InvalidNumber_init : K.lookup f_InvalidNumber_init = some ⟨oc_InvalidNumber_init, od_InvalidNumber_init, .func (PySem.W.fnOf "__init__" "InvalidNumber.__init__" (defArgs s_InvalidNumber_init) (defBody s_InvalidNumber_init) (defScope s_InvalidNumber_init) .none kV_InvalidNumber_init dc_InvalidNumber_init pm_InvalidNumber_init an_InvalidNumber_init cd_InvalidNumber_init ct_InvalidNumber_init), sl_InvalidNumber_init⟩)
    (c_InvalidNumber_init : PySem.W.codeIn K cd_InvalidNumber_init "InvalidNumber.__init__" = true)
    (k_InvalidNumber_init : PySem.W.keepIn K (.ref f_InvalidNumber_init) = true)
    (kS_InvalidText : PySem.W.kitOne K (.ref C_InvalidText) (.ref C_SheetError) = some true)
    (ga_InvalidText : PySem.W.findIn K (.ref C_InvalidText) "__getattribute__" = some (some (.builtin "BaseException.__getattribute__")))
    (gg_InvalidText : PySem.W.findIn K (.ref C_InvalidText) "__getattr__" = some none)
    (sb_InvalidText : PySem.W.subIn K (.ref C_InvalidText) (.type "BaseException") = some true)
    (hd_InvalidText : PySem.W.hasDictIn K C_InvalidText = true)
    (ha_InvalidText : PySem.W.findIn K (.ref C_InvalidText) "__class__" = some (some (.builtin "object.__class__")))
    (hm_InvalidText : PySem.W.mroIn K C_InvalidText (.type "object") = some true)
    (ty_InvalidText : PySem.W.typeIn K (.ref C_InvalidText) = some (.type "type"))
    (kp_InvalidText : PySem.W.keepIn K (.ref C_InvalidText) = true)
    (ex_InvalidText : PySem.W.exmOne K (.ref C_InvalidText) (.ref C_InvalidText) = some true)
    (x_InvalidText : K.lookup C_InvalidText = some (excClassObj nm_InvalidText q_InvalidText C_InvalidText N_InvalidText bs_InvalidText [.ref C_SheetError, .type "ValueError", .type "Exception", .type "BaseException", .type "object"] true sn_InvalidText sub_InvalidText ab_InvalidText col_InvalidText dd_InvalidText m0_InvalidText m1_InvalidText m2_InvalidText m3_InvalidText m5_InvalidText "ValueError.__new__"))
    (sa_InvalidText : PySem.W.findIn K (.ref C_InvalidText) "__setattr__" = some (some (.builtin "object.__setattr__")))
    (no_InvalidText : PySem.W.findIn K (.ref C_InvalidText) "text" = some none)
    (i_InvalidText : PySem.W.findIn K (.ref C_InvalidText) "__init__" = some (some (.ref f_InvalidText_init)))
    (ti_InvalidText : PySem.W.typeIn K (.ref f_InvalidText_init) = some (.type "function"))
    (l_InvalidText_init : K.lookup f_InvalidText_init = some ⟨oc_InvalidText_init, od_InvalidText_init, .func (PySem.W.fnOf "__init__" "InvalidText.__init__" (defArgs s_InvalidText_init) (defBody s_InvalidText_init) (defScope s_InvalidText_init) .none kV_InvalidText_init dc_InvalidText_init pm_InvalidText_init an_InvalidText_init cd_InvalidText_init ct_InvalidText_init), sl_InvalidText_init⟩)
    (c_InvalidText_init : PySem.W.codeIn K cd_InvalidText_init "InvalidText.__init__" = true)
    (k_InvalidText_init : PySem.W.keepIn K (.ref f_InvalidText_init) = true)
    (kS_BadText : PySem.W.kitOne K (.ref C_BadText) (.ref C_SheetError) = some true)
    (ga_BadText : PySem.W.findIn K (.ref C_BadText) "__getattribute__" = some (some (.builtin "BaseException.__getattribute__")))
    (gg_BadText : PySem.W.findIn K (.ref C_BadText) "__getattr__" = some none)
    (sb_BadText : PySem.W.subIn K (.ref C_BadText) (.type "BaseException") = some true)
    (hd_BadText : PySem.W.hasDictIn K C_BadText = true)
    (ha_BadText : PySem.W.findIn K (.ref C_BadText) "__class__" = some (some (.builtin "object.__class__")))
    (hm_BadText : PySem.W.mroIn K C_BadText (.type "object") = some true)
    (ty_BadText : PySem.W.typeIn K (.ref C_BadText) = some (.type "type"))
    (kp_BadText : PySem.W.keepIn K (.ref C_BadText) = true)
    (ex_BadText : PySem.W.exmOne K (.ref C_BadText) (.ref C_BadText) = some true)
    (x_BadText : K.lookup C_BadText = some (excClassObj nm_BadText q_BadText C_BadText N_BadText bs_BadText [.ref C_SheetError, .type "ValueError", .type "Exception", .type "BaseException", .type "object"] true sn_BadText sub_BadText ab_BadText col_BadText dd_BadText m0_BadText m1_BadText m2_BadText m3_BadText m5_BadText "ValueError.__new__"))
    (sa_BadText : PySem.W.findIn K (.ref C_BadText) "__setattr__" = some (some (.builtin "object.__setattr__")))
    (no_BadText : PySem.W.findIn K (.ref C_BadText) "at" = some none)
    (i_BadText : PySem.W.findIn K (.ref C_BadText) "__init__" = some (some (.ref f_BadText_init)))
    (ti_BadText : PySem.W.typeIn K (.ref f_BadText_init) = some (.type "function"))
    (l_BadText_init : K.lookup f_BadText_init = some ⟨oc_BadText_init, od_BadText_init, .func (PySem.W.fnOf "__init__" "BadText.__init__" (defArgs s_BadText_init) (defBody s_BadText_init) (defScope s_BadText_init) .none kV_BadText_init dc_BadText_init pm_BadText_init an_BadText_init cd_BadText_init ct_BadText_init), sl_BadText_init⟩)
    (c_BadText_init : PySem.W.codeIn K cd_BadText_init "BadText.__init__" = true)
    (k_BadText_init : PySem.W.keepIn K (.ref f_BadText_init) = true)
    (v_GROUP_UNIT : PySem.W.nsIn K mainGlobals "GROUP_UNIT" = some (some (.int 10000000000000000000000000000000000000000000000000000000000000000 tk_GROUP_UNIT)))
    (v_GROUP_DIGITS : PySem.W.nsIn K mainGlobals "GROUP_DIGITS" = some (some (.int 64 tk_GROUP_DIGITS)))
    (v_NAME_LETTERS : PySem.W.nsIn K mainGlobals "NAME_LETTERS" = some (some (.int 8 tk_NAME_LETTERS)))
    (aZ_FUNCTION_WORDS : PySem.W.nsIn K mainGlobals "FUNCTION_WORDS" = some (some (.ref Z_FUNCTION_WORDS)))
    (lZ_FUNCTION_WORDS : K.lookup Z_FUNCTION_WORDS = some ⟨.type "tuple", dz_FUNCTION_WORDS, .seq #[.str "sum" tz0_FUNCTION_WORDS, .str "average" tz1_FUNCTION_WORDS] nz_FUNCTION_WORDS, sz_FUNCTION_WORDS⟩)
    (n_len : PySem.W.nsIn K mainGlobals "len" = some none)
    (n_max : PySem.W.nsIn K mainGlobals "max" = some none)
    (n_abs : PySem.W.nsIn K mainGlobals "abs" = some none)
    (n_any : PySem.W.nsIn K mainGlobals "any" = some none)
    (n_all : PySem.W.nsIn K mainGlobals "all" = some none)
    (n_isinstance : PySem.W.nsIn K mainGlobals "isinstance" = some none)
    (n_range : PySem.W.nsIn K mainGlobals "range" = some none)
    (n_zip : PySem.W.nsIn K mainGlobals "zip" = some none)
    (n_int : PySem.W.nsIn K mainGlobals "int" = some none)
    (n_bool : PySem.W.nsIn K mainGlobals "bool" = some none)
    (n_tuple : PySem.W.nsIn K mainGlobals "tuple" = some none)
    (n_list : PySem.W.nsIn K mainGlobals "list" = some none)
    (n_divmod : PySem.W.nsIn K mainGlobals "divmod" = some none)
    (n_str : PySem.W.nsIn K mainGlobals "str" = some none)
    (n_sorted : PySem.W.nsIn K mainGlobals "sorted" = some none)
    (g_gcd : PySem.W.nsIn K mainGlobals "gcd" = some (some (.builtin "math.gcd"))) :
    ∃ fd : FuncData, (∀ (s : Shared) (v : Value), BindsTo s fd ⟨[v], []⟩ [("_law_script", v)]) ∧ ∀ base : Heap, K.In base → base.Ns mainGlobals mg → FnOk l.prog w K mg base CX0 10 fa fd ["_law_script"] (spLaw K) := by
  have e := hfa.symm.trans (PySem.W.mg_of X G a_law)
  cases e
  have T : Bt mg := ⟨PySem.W.mg_none_of X G n_len, PySem.W.mg_none_of X G n_max, PySem.W.mg_none_of X G n_abs, PySem.W.mg_none_of X G n_any, PySem.W.mg_none_of X G n_all, PySem.W.mg_none_of X G n_isinstance, PySem.W.mg_none_of X G n_range, PySem.W.mg_none_of X G n_zip, PySem.W.mg_none_of X G n_int, PySem.W.mg_none_of X G n_bool, PySem.W.mg_none_of X G n_tuple, PySem.W.mg_none_of X G n_list⟩
  have w_GROUP_UNIT : ∃ t, mg "GROUP_UNIT" = some (.int 10000000000000000000000000000000000000000000000000000000000000000 t) := ⟨_, PySem.W.mg_of X G v_GROUP_UNIT⟩
  have w_GROUP_DIGITS : ∃ t, mg "GROUP_DIGITS" = some (.int 64 t) := ⟨_, PySem.W.mg_of X G v_GROUP_DIGITS⟩
  have w_NAME_LETTERS : ∃ t, mg "NAME_LETTERS" = some (.int 8 t) := ⟨_, PySem.W.mg_of X G v_NAME_LETTERS⟩
  have w_FUNCTION_WORDS : ∃ a, mg "FUNCTION_WORDS" = some (.ref a) ∧ ∀ H, SqT K H a [V.str "sum", V.str "average"] := ⟨_, PySem.W.mg_of X G aZ_FUNCTION_WORDS, fun H => .inr ⟨_, _, _, lZ_FUNCTION_WORDS, rfl, rfl, (by show 2 ≤ sizeLine; decide), (.cons ⟨_, rfl⟩ (.cons ⟨_, rfl⟩ .nil))⟩⟩
  have ux : True := trivial
  have Tg : Gt mg := ⟨PySem.W.mg_of X G g_gcd⟩
  have F_is_whole := fun_mk (st := s_is_whole) l_is_whole c_is_whole k_is_whole
  have D_is_whole : Df K mg "is_whole" s_is_whole ["value"] := ⟨_, _, F_is_whole, PySem.W.mg_of X G a_is_whole, F_is_whole.binds fun _ _ _ _ _ _ us hl => match us, hl with | [_], _ => rfl⟩
  have F_is_ratio := fun_mk (st := s_is_ratio) l_is_ratio c_is_ratio k_is_ratio
  have D_is_ratio : Df K mg "is_ratio" s_is_ratio ["value"] := ⟨_, _, F_is_ratio, PySem.W.mg_of X G a_is_ratio, F_is_ratio.binds fun _ _ _ _ _ _ us hl => match us, hl with | [_], _ => rfl⟩
  have F_as_ratio := fun_mk (st := s_as_ratio) l_as_ratio c_as_ratio k_as_ratio
  have D_as_ratio : Df K mg "as_ratio" s_as_ratio ["value"] := ⟨_, _, F_as_ratio, PySem.W.mg_of X G a_as_ratio, F_as_ratio.binds fun _ _ _ _ _ _ us hl => match us, hl with | [_], _ => rfl⟩
  have F_ratio_text := fun_mk (st := s_ratio_text) l_ratio_text c_ratio_text k_ratio_text
  have D_ratio_text : Df K mg "ratio_text" s_ratio_text ["number"] := ⟨_, _, F_ratio_text, PySem.W.mg_of X G a_ratio_text, F_ratio_text.binds fun _ _ _ _ _ _ us hl => match us, hl with | [_], _ => rfl⟩
  have F_integer_text := fun_mk (st := s_integer_text) l_integer_text c_integer_text k_integer_text
  have D_integer_text : Df K mg "integer_text" s_integer_text ["number"] := ⟨_, _, F_integer_text, PySem.W.mg_of X G a_integer_text, F_integer_text.binds fun _ _ _ _ _ _ us hl => match us, hl with | [_], _ => rfl⟩
  have F_read_ratio := fun_mk (st := s_read_ratio) l_read_ratio c_read_ratio k_read_ratio
  have D_read_ratio : Df K mg "read_ratio" s_read_ratio ["text"] := ⟨_, _, F_read_ratio, PySem.W.mg_of X G a_read_ratio, F_read_ratio.binds fun _ _ _ _ _ _ us hl => match us, hl with | [_], _ => rfl⟩
  have F_are_digits := fun_mk (st := s_are_digits) l_are_digits c_are_digits k_are_digits
  have D_are_digits : Df K mg "are_digits" s_are_digits ["text"] := ⟨_, _, F_are_digits, PySem.W.mg_of X G a_are_digits, F_are_digits.binds fun _ _ _ _ _ _ us hl => match us, hl with | [_], _ => rfl⟩
  have F_read_digits := fun_mk (st := s_read_digits) l_read_digits c_read_digits k_read_digits
  have D_read_digits : Df K mg "read_digits" s_read_digits ["digits"] := ⟨_, _, F_read_digits, PySem.W.mg_of X G a_read_digits, F_read_digits.binds fun _ _ _ _ _ _ us hl => match us, hl with | [_], _ => rfl⟩
  have F_is_name := fun_mk (st := s_is_name) l_is_name c_is_name k_is_name
  have D_is_name : Df K mg "is_name" s_is_name ["value"] := ⟨_, _, F_is_name, PySem.W.mg_of X G a_is_name, F_is_name.binds fun _ _ _ _ _ _ us hl => match us, hl with | [_], _ => rfl⟩
  have F_table_text := fun_mk (st := s_table_text) l_table_text c_table_text k_table_text
  have D_table_text : Df K mg "table_text" s_table_text ["table"] := ⟨_, _, F_table_text, PySem.W.mg_of X G a_table_text, F_table_text.binds fun _ _ _ _ _ _ us hl => match us, hl with | [_], _ => rfl⟩
  have F_read_table := fun_mk (st := s_read_table) l_read_table c_read_table k_read_table
  have D_read_table : Df K mg "read_table" s_read_table ["text"] := ⟨_, _, F_read_table, PySem.W.mg_of X G a_read_table, F_read_table.binds fun _ _ _ _ _ _ us hl => match us, hl with | [_], _ => rfl⟩
  have F_limits_text := fun_mk (st := s_limits_text) l_limits_text c_limits_text k_limits_text
  have D_limits_text : Df K mg "limits_text" s_limits_text ["limits"] := ⟨_, _, F_limits_text, PySem.W.mg_of X G a_limits_text, F_limits_text.binds fun _ _ _ _ _ _ us hl => match us, hl with | [_], _ => rfl⟩
  have F_limit_text := fun_mk (st := s_limit_text) l_limit_text c_limit_text k_limit_text
  have D_limit_text : Df K mg "limit_text" s_limit_text ["limit"] := ⟨_, _, F_limit_text, PySem.W.mg_of X G a_limit_text, F_limit_text.binds fun _ _ _ _ _ _ us hl => match us, hl with | [_], _ => rfl⟩
  have F_read_limits := fun_mk (st := s_read_limits) l_read_limits c_read_limits k_read_limits
  have D_read_limits : Df K mg "read_limits" s_read_limits ["text"] := ⟨_, _, F_read_limits, PySem.W.mg_of X G a_read_limits, F_read_limits.binds fun _ _ _ _ _ _ us hl => match us, hl with | [_], _ => rfl⟩
  have F_parts_of := fun_mk (st := s_parts_of) l_parts_of c_parts_of k_parts_of
  have D_parts_of : Df K mg "parts_of" s_parts_of ["text"] := ⟨_, _, F_parts_of, PySem.W.mg_of X G a_parts_of, F_parts_of.binds fun _ _ _ _ _ _ us hl => match us, hl with | [_], _ => rfl⟩
  have F_all_read := fun_mk (st := s_all_read) l_all_read c_all_read k_all_read
  have D_all_read : Df K mg "all_read" s_all_read ["found"] := ⟨_, _, F_all_read, PySem.W.mg_of X G a_all_read, F_all_read.binds fun _ _ _ _ _ _ us hl => match us, hl with | [_], _ => rfl⟩
  have F_read_number := fun_mk (st := s_read_number) l_read_number c_read_number k_read_number
  have D_read_number : Df K mg "read_number" s_read_number ["text"] := ⟨_, _, F_read_number, PySem.W.mg_of X G a_read_number, F_read_number.binds fun _ _ _ _ _ _ us hl => match us, hl with | [_], _ => rfl⟩
  have F_read_entry := fun_mk (st := s_read_entry) l_read_entry c_read_entry k_read_entry
  have D_read_entry : Df K mg "read_entry" s_read_entry ["part"] := ⟨_, _, F_read_entry, PySem.W.mg_of X G a_read_entry, F_read_entry.binds fun _ _ _ _ _ _ us hl => match us, hl with | [_], _ => rfl⟩
  have F_read_limit := fun_mk (st := s_read_limit) l_read_limit c_read_limit k_read_limit
  have D_read_limit : Df K mg "read_limit" s_read_limit ["part"] := ⟨_, _, F_read_limit, PySem.W.mg_of X G a_read_limit, F_read_limit.binds fun _ _ _ _ _ _ us hl => match us, hl with | [_], _ => rfl⟩
  have F_read_bounds := fun_mk (st := s_read_bounds) l_read_bounds c_read_bounds k_read_bounds
  have D_read_bounds : Df K mg "read_bounds" s_read_bounds ["words"] := ⟨_, _, F_read_bounds, PySem.W.mg_of X G a_read_bounds, F_read_bounds.binds fun _ _ _ _ _ _ us hl => match us, hl with | [_], _ => rfl⟩
  have F_l_box := fun_mk (st := s_l_box) l_l_box c_l_box k_l_box
  have D_l_box : Df K mg "_law_box" s_l_box ["_law_script"] := ⟨_, _, F_l_box, PySem.W.mg_of X G a_l_box, F_l_box.binds fun _ _ _ _ _ _ us hl => match us, hl with | [_], _ => rfl⟩
  have F_l_mixed := fun_mk (st := s_l_mixed) l_l_mixed c_l_mixed k_l_mixed
  have D_l_mixed : Df K mg "_law_mixed" s_l_mixed ["_law_cell", "_law_k"] := ⟨_, _, F_l_mixed, PySem.W.mg_of X G a_l_mixed, F_l_mixed.binds fun _ _ _ _ _ _ us hl => match us, hl with | [_, _], _ => rfl⟩
  have F_l_take := fun_mk (st := s_l_take) l_l_take c_l_take k_l_take
  have D_l_take : Df K mg "_law_take" s_l_take ["_law_box_here", "_law_size"] := ⟨_, _, F_l_take, PySem.W.mg_of X G a_l_take, F_l_take.binds fun _ _ _ _ _ _ us hl => match us, hl with | [_, _], _ => rfl⟩
  have F_l_shuffled := fun_mk (st := s_l_shuffled) l_l_shuffled c_l_shuffled k_l_shuffled
  have D_l_shuffled : Df K mg "_law_shuffled" s_l_shuffled ["_law_box_here", "_law_things"] := ⟨_, _, F_l_shuffled, PySem.W.mg_of X G a_l_shuffled, F_l_shuffled.binds fun _ _ _ _ _ _ us hl => match us, hl with | [_, _], _ => rfl⟩
  have F_l_names := fun_mk (st := s_l_names) l_l_names c_l_names k_l_names
  have D_l_names : Df K mg "_law_names" s_l_names ["_law_box_here", "_law_many"] := ⟨_, _, F_l_names, PySem.W.mg_of X G a_l_names, F_l_names.binds fun _ _ _ _ _ _ us hl => match us, hl with | [_, _], _ => rfl⟩
  have F_l_shared := fun_mk (st := s_l_shared) l_l_shared c_l_shared k_l_shared
  have D_l_shared : Df K mg "_law_shared" s_l_shared ["_law_one", "_law_other"] := ⟨_, _, F_l_shared, PySem.W.mg_of X G a_l_shared, F_l_shared.binds fun _ _ _ _ _ _ us hl => match us, hl with | [_, _], _ => rfl⟩
  have F_l_ratio := fun_mk (st := s_l_ratio) l_l_ratio c_l_ratio k_l_ratio
  have D_l_ratio : Df K mg "_law_ratio" s_l_ratio ["_law_top", "_law_bottom"] := ⟨_, _, F_l_ratio, PySem.W.mg_of X G a_l_ratio, F_l_ratio.binds fun _ _ _ _ _ _ us hl => match us, hl with | [_, _], _ => rfl⟩
  have F_l_before := fun_mk (st := s_l_before) l_l_before c_l_before k_l_before
  have D_l_before : Df K mg "_law_before" s_l_before ["_law_one", "_law_other"] := ⟨_, _, F_l_before, PySem.W.mg_of X G a_l_before, F_l_before.binds fun _ _ _ _ _ _ us hl => match us, hl with | [_, _], _ => rfl⟩
  have F_l_number := fun_mk (st := s_l_number) l_l_number c_l_number k_l_number
  have D_l_number : Df K mg "_law_number" s_l_number ["_law_box_here"] := ⟨_, _, F_l_number, PySem.W.mg_of X G a_l_number, F_l_number.binds fun _ _ _ _ _ _ us hl => match us, hl with | [_], _ => rfl⟩
  have F_l_given := fun_mk (st := s_l_given) l_l_given c_l_given k_l_given
  have D_l_given : Df K mg "_law_given" s_l_given ["_law_box_here", "_law_number_here"] := ⟨_, _, F_l_given, PySem.W.mg_of X G a_l_given, F_l_given.binds fun _ _ _ _ _ _ us hl => match us, hl with | [_, _], _ => rfl⟩
  have F_l_written := fun_mk (st := s_l_written) l_l_written c_l_written k_l_written
  have D_l_written : Df K mg "_law_written" s_l_written ["_law_number_here"] := ⟨_, _, F_l_written, PySem.W.mg_of X G a_l_written, F_l_written.binds fun _ _ _ _ _ _ us hl => match us, hl with | [_], _ => rfl⟩
  have F_l_end_text := fun_mk (st := s_l_end_text) l_l_end_text c_l_end_text k_l_end_text
  have D_l_end_text : Df K mg "_law_end_text" s_l_end_text ["_law_limit"] := ⟨_, _, F_l_end_text, PySem.W.mg_of X G a_l_end_text, F_l_end_text.binds fun _ _ _ _ _ _ us hl => match us, hl with | [_], _ => rfl⟩
  have F_l_reading := fun_mk (st := s_l_reading) l_l_reading c_l_reading k_l_reading
  have D_l_reading : Df K mg "_law_reading" s_l_reading ["_law_way", "_law_text"] := ⟨_, _, F_l_reading, PySem.W.mg_of X G a_l_reading, F_l_reading.binds fun _ _ _ _ _ _ us hl => match us, hl with | [_, _], _ => rfl⟩
  have F_l_bad_part := fun_mk (st := s_l_bad_part) l_l_bad_part c_l_bad_part k_l_bad_part
  have D_l_bad_part : Df K mg "_law_bad_part" s_l_bad_part ["_law_box_here", "_law_way"] := ⟨_, _, F_l_bad_part, PySem.W.mg_of X G a_l_bad_part, F_l_bad_part.binds fun _ _ _ _ _ _ us hl => match us, hl with | [_, _], _ => rfl⟩
  have F_l_spoilt := fun_mk (st := s_l_spoilt) l_l_spoilt c_l_spoilt k_l_spoilt
  have D_l_spoilt : Df K mg "_law_spoilt" s_l_spoilt ["_law_box_here", "_law_way", "_law_parts"] := ⟨_, _, F_l_spoilt, PySem.W.mg_of X G a_l_spoilt, F_l_spoilt.binds fun _ _ _ _ _ _ us hl => match us, hl with | [_, _, _], _ => rfl⟩
  have F_l_bent_right := fun_mk (st := s_l_bent_right) l_l_bent_right c_l_bent_right k_l_bent_right
  have D_l_bent_right : Df K mg "_law_bent_right" s_l_bent_right ["_law_box_here", "_law_way", "_law_parts"] := ⟨_, _, F_l_bent_right, PySem.W.mg_of X G a_l_bent_right, F_l_bent_right.binds fun _ _ _ _ _ _ us hl => match us, hl with | [_, _, _], _ => rfl⟩
  have F_l_limit_of := fun_mk (st := s_l_limit_of) l_l_limit_of c_l_limit_of k_l_limit_of
  have D_l_limit_of : Df K mg "_law_limit_of" s_l_limit_of ["_law_box_here", "_law_name"] := ⟨_, _, F_l_limit_of, PySem.W.mg_of X G a_l_limit_of, F_l_limit_of.binds fun _ _ _ _ _ _ us hl => match us, hl with | [_, _], _ => rfl⟩
  have F_l_told_again := fun_mk (st := s_l_told_again) l_l_told_again c_l_told_again k_l_told_again
  have D_l_told_again : Df K mg "_law_told_again" s_l_told_again ["_law_box_here", "_law_way", "_law_some", "_law_parts"] := ⟨_, _, F_l_told_again, PySem.W.mg_of X G a_l_told_again, F_l_told_again.binds fun _ _ _ _ _ _ us hl => match us, hl with | [_, _, _, _], _ => rfl⟩
  have F_law := fun_mk (st := s_law) l_law c_law k_law
  have D_law : Df K mg "law" s_law ["_law_script"] := ⟨_, _, F_law, PySem.W.mg_of X G a_law, F_law.binds fun _ _ _ _ _ _ us hl => match us, hl with | [_], _ => rfl⟩
  have F_ratio : FunD K "ratio" "ratio" (defArgs s_ratio) (defBody s_ratio) (defScope s_ratio) [.int 1] [] f_ratio _ := ⟨⟨_, _, _, _, _, _, _, _, _, _, rfl, l_ratio, c_ratio, .inr ⟨List.cons_ne_nil _ _, T_ratio, _, [.int 1 tt_ratio], _, rfl, t_ratio, rfl, .cons ⟨_, rfl⟩ .nil⟩, .inl rfl⟩, k_ratio⟩
  have D_ratio : Df1 K mg "ratio" s_ratio ["top", "bottom"] := by
    obtain ⟨ds0, v0, b0⟩ := F_ratio.binds1 (ps := ["top", "bottom"]) 2 1 (List.cons_ne_nil _ _) rfl fun _ _ _ _ _ _ _ us its hl hi => match us, its, hl, hi with | [_, _], [_], _, _ => ⟨_, rfl, rfl⟩
    obtain ⟨ds1, v1, b1⟩ := F_ratio.binds1 (ps := ["top", "bottom"]) 1 0 (List.cons_ne_nil _ _) rfl fun _ _ _ _ _ _ _ us its hl hi => match us, its, hl, hi with | [_], [_], _, _ => ⟨_, rfl, rfl⟩
    cases v0
    exact ⟨_, _, F_ratio, PySem.W.mg_of X G a_ratio, b0, ds1, v1, b1⟩
  have ec_ZeroBottom : ExcC K C_ZeroBottom := ⟨ga_ZeroBottom, gg_ZeroBottom, sb_ZeroBottom, hd_ZeroBottom, ha_ZeroBottom, special, takes, hm_ZeroBottom⟩
  have Z_ZeroBottom : ErrZ K mg "ZeroBottom" C_ZeroBottom := ⟨PySem.W.mg_of X G aC_ZeroBottom, xp_ZeroBottom, kp_ZeroBottom, sb_ZeroBottom, ty_ZeroBottom, ec_ZeroBottom, ex_ZeroBottom⟩
  have ec_InvalidNumber : ExcC K C_InvalidNumber := ⟨ga_InvalidNumber, gg_InvalidNumber, sb_InvalidNumber, hd_InvalidNumber, ha_InvalidNumber, special, takes, hm_InvalidNumber⟩
  have ox_InvalidNumber : OexC K C_InvalidNumber := ⟨⟨nm_InvalidNumber, q_InvalidNumber, N_InvalidNumber, bs_InvalidNumber, _, sn_InvalidNumber, sub_InvalidNumber, ab_InvalidNumber, col_InvalidNumber, dd_InvalidNumber, m0_InvalidNumber, m1_InvalidNumber, m2_InvalidNumber, m3_InvalidNumber, m5_InvalidNumber, x_InvalidNumber, by show PySem.HandSPX.refsVE _ = true; rfl⟩, sa_InvalidNumber, sb_InvalidNumber, ty_InvalidNumber, kp_InvalidNumber⟩
  have Fi_InvalidNumber := fun_mk (st := s_InvalidNumber_init) l_InvalidNumber_init c_InvalidNumber_init k_InvalidNumber_init
  have ec_InvalidText : ExcC K C_InvalidText := ⟨ga_InvalidText, gg_InvalidText, sb_InvalidText, hd_InvalidText, ha_InvalidText, special, takes, hm_InvalidText⟩
  have ox_InvalidText : OexC K C_InvalidText := ⟨⟨nm_InvalidText, q_InvalidText, N_InvalidText, bs_InvalidText, _, sn_InvalidText, sub_InvalidText, ab_InvalidText, col_InvalidText, dd_InvalidText, m0_InvalidText, m1_InvalidText, m2_InvalidText, m3_InvalidText, m5_InvalidText, x_InvalidText, by show PySem.HandSPX.refsVE _ = true; rfl⟩, sa_InvalidText, sb_InvalidText, ty_InvalidText, kp_InvalidText⟩
  have Fi_InvalidText := fun_mk (st := s_InvalidText_init) l_InvalidText_init c_InvalidText_init k_InvalidText_init
  have ec_BadText : ExcC K C_BadText := ⟨ga_BadText, gg_BadText, sb_BadText, hd_BadText, ha_BadText, special, takes, hm_BadText⟩
  have ox_BadText : OexC K C_BadText := ⟨⟨nm_BadText, q_BadText, N_BadText, bs_BadText, _, sn_BadText, sub_BadText, ab_BadText, col_BadText, dd_BadText, m0_BadText, m1_BadText, m2_BadText, m3_BadText, m5_BadText, x_BadText, by show PySem.HandSPX.refsVE _ = true; rfl⟩, sa_BadText, sb_BadText, ty_BadText, kp_BadText⟩
  have Fi_BadText := fun_mk (st := s_BadText_init) l_BadText_init c_BadText_init k_BadText_init
  refine ⟨PySem.W.fnOf "law" "law" (defArgs s_law) (defBody s_law) (defScope s_law) .none kV_law dc_law pm_law an_law cd_law ct_law, fun s v => .of_eq rfl, fun base _ _ => ?_⟩
  have Tt : Ut mg := ⟨PySem.W.mg_none_of X G n_divmod, PySem.W.mg_none_of X G n_str, by have z := w_GROUP_UNIT; rw [UNIT_GROUP_UNIT] at z; exact z, w_GROUP_DIGITS⟩
  have Tn : Ut9 K mg := ⟨PySem.W.mg_none_of X G n_str, w_FUNCTION_WORDS, w_NAME_LETTERS⟩
  have Ts := PySem.W.mg_none_of X G n_sorted
  have K_mixed := ok_mixed (P := l.prog) (w := w) (base := base) D_l_mixed
  have K_shared := ok_shared (P := l.prog) (w := w) (base := base) T D_l_shared
  have K_take := ok_take T K_mixed D_l_take
  have K_box := ok_box (P := l.prog) (w := w) (base := base) D_l_box
  have K_lratio := ok_lratio K_shared D_l_ratio
  have K_num := ok_number40 K_take K_lratio D_l_number
  have K_given := ok_givenD K_take D_l_given
  have K_whole := ok_is_whole (P := l.prog) (w := w) (base := base) T D_is_whole
  have K_isr := ok_is_ratio T Tg K_whole D_is_ratio
  have E_inv : ErrF l.prog w K mg base "InvalidNumber" "value" C_InvalidNumber := ⟨PySem.W.mg_of X G aC_InvalidNumber, ox_InvalidNumber, ⟨ga_InvalidNumber, gg_InvalidNumber, sb_InvalidNumber, hd_InvalidNumber⟩, no_InvalidNumber, ec_InvalidNumber, ex_InvalidNumber,
    ⟨_, _, i_InvalidNumber, ti_InvalidNumber, ok_errinit Fi_InvalidNumber ox_InvalidNumber no_InvalidNumber, Fi_InvalidNumber.binds fun _ _ _ _ _ _ us hl => match us, hl with | [_, _], _ => rfl⟩⟩
  have E_txt : ErrF l.prog w K mg base "InvalidText" "text" C_InvalidText := ⟨PySem.W.mg_of X G aC_InvalidText, ox_InvalidText, ⟨ga_InvalidText, gg_InvalidText, sb_InvalidText, hd_InvalidText⟩, no_InvalidText, ec_InvalidText, ex_InvalidText,
    ⟨_, _, i_InvalidText, ti_InvalidText, ok_errinitT Fi_InvalidText ox_InvalidText no_InvalidText, Fi_InvalidText.binds fun _ _ _ _ _ _ us hl => match us, hl with | [_, _], _ => rfl⟩⟩
  have E_bad : ErrF l.prog w K mg base "BadText" "at" C_BadText := ⟨PySem.W.mg_of X G aC_BadText, ox_BadText, ⟨ga_BadText, gg_BadText, sb_BadText, hd_BadText⟩, no_BadText, ec_BadText, ex_BadText,
    ⟨_, _, i_BadText, ti_BadText, ok_errinitB Fi_BadText ox_BadText no_BadText, Fi_BadText.binds fun _ _ _ _ _ _ us hl => match us, hl with | [_, _], _ => rfl⟩⟩
  have K_as := ok_as_ratio T E_inv K_whole K_isr D_as_ratio
  have K_ratio := ok_ratio (P := l.prog) (w := w) (base := base) T Tg Z_ZeroBottom D_ratio
  have K_int := ok_integer_text (P := l.prog) (w := w) (base := base) T Tt D_integer_text
  have K_are := ok_are_digits (P := l.prog) (w := w) (base := base) D_are_digits
  have K_read := ok_read_digits (P := l.prog) (w := w) (base := base) T Tt D_read_digits
  have K_text := ok_ratio_text K_as K_int D_ratio_text
  have K_rr := ok_read_ratio T E_txt K_are K_read K_ratio D_read_ratio
  have K_isname := ok_is_name (P := l.prog) (w := w) (base := base) T Tn D_is_name
  have K_rnum := ok_read_number E_txt K_rr D_read_number
  have K_entry := ok_read_entry K_rnum K_isname D_read_entry
  have K_parts := ok_parts_of (P := l.prog) (w := w) (base := base) D_parts_of
  have K_all := ok_all_read T E_bad D_all_read
  have K_rtab := ok_read_table K_parts K_entry K_all D_read_table
  have K_bounds := ok_read_bounds T K_rnum D_read_bounds
  have K_rlim := ok_read_limit K_bounds K_isname D_read_limit
  have K_rlims := ok_read_limits K_parts K_rlim K_all D_read_limits
  have K_ltext := ok_limit_text K_text D_limit_text
  have K_lstext := ok_limits_text K_ltext D_limits_text
  have K_ttext := ok_table_text K_text D_table_text
  have K_written := ok_written (P := l.prog) (w := w) (base := base) T Tt D_l_written
  have K_end := ok_end_text K_written D_l_end_text
  have K_reading := ok_reading E_bad K_rtab K_rlims D_l_reading
  have K_badp := ok_bad_part T K_take D_l_bad_part
  have K_spoilt := ok_spoilt T K_take K_badp D_l_spoilt
  have K_bent := ok_bent_right K_spoilt K_reading D_l_bent_right
  have K_before := ok_before (P := l.prog) (w := w) (base := base) D_l_before
  have K_limof := ok_limit_of K_take K_num K_before D_l_limit_of
  have K_told := ok_told_again T K_take K_reading D_l_told_again
  have K_names := ok_names T K_take D_l_names
  have K_shuf := ok_shuffledV T K_take D_l_shuffled
  exact ok_law T Ts K_box K_names K_take K_shuf K_num K_given K_written K_ttext K_reading K_bent K_told K_limof K_end K_lstext F_law

end Bs
open PySem PySem.W PyProof.Rows
set_option maxRecDepth 100000 in
set_option maxHeartbeats 0 in
theorem PySem.Challenge.cw_backsheet_k91_tables_and_limits_written_holds : PySem.Challenge.rw_backsheet_k91_tables_and_limits_written.Holds := by
  w_on; o_law; k_head; (case hw => w_witness2)
  k_fill
  refine Bs.walk (l := PySem.Challenge.rw_backsheet_k91_tables_and_limits_written) rfl rfl (fun w h Y => PySem.W.kIn_of Y) ?F
  case F =>
    intro w mg fa h KX G hmg
    refine' Bs.all_mk KX G hmg ?a_is_whole ?l_is_whole ?c_is_whole ?k_is_whole ?a_is_ratio ?l_is_ratio ?c_is_ratio ?k_is_ratio ?a_as_ratio ?l_as_ratio ?c_as_ratio ?k_as_ratio ?a_ratio_text ?l_ratio_text ?c_ratio_text ?k_ratio_text ?a_integer_text ?l_integer_text ?c_integer_text ?k_integer_text ?a_read_ratio ?l_read_ratio ?c_read_ratio ?k_read_ratio ?a_are_digits ?l_are_digits ?c_are_digits ?k_are_digits ?a_read_digits ?l_read_digits ?c_read_digits ?k_read_digits ?a_is_name ?l_is_name ?c_is_name ?k_is_name ?a_table_text ?l_table_text ?c_table_text ?k_table_text ?a_read_table ?l_read_table ?c_read_table ?k_read_table ?a_limits_text ?l_limits_text ?c_limits_text ?k_limits_text ?a_limit_text ?l_limit_text ?c_limit_text ?k_limit_text ?a_read_limits ?l_read_limits ?c_read_limits ?k_read_limits ?a_parts_of ?l_parts_of ?c_parts_of ?k_parts_of ?a_all_read ?l_all_read ?c_all_read ?k_all_read ?a_read_number ?l_read_number ?c_read_number ?k_read_number ?a_read_entry ?l_read_entry ?c_read_entry ?k_read_entry ?a_read_limit ?l_read_limit ?c_read_limit ?k_read_limit ?a_read_bounds ?l_read_bounds ?c_read_bounds ?k_read_bounds ?a_l_box ?l_l_box ?c_l_box ?k_l_box ?a_l_mixed ?l_l_mixed ?c_l_mixed ?k_l_mixed ?a_l_take ?l_l_take ?c_l_take ?k_l_take ?a_l_shuffled ?l_l_shuffled ?c_l_shuffled ?k_l_shuffled ?a_l_names ?l_l_names ?c_l_names ?k_l_names ?a_l_shared ?l_l_shared ?c_l_shared ?k_l_shared ?a_l_ratio ?l_l_ratio ?c_l_ratio ?k_l_ratio ?a_l_before ?l_l_before ?c_l_before ?k_l_before ?a_l_number ?l_l_number ?c_l_number ?k_l_number ?a_l_given ?l_l_given ?c_l_given ?k_l_given ?a_l_written ?l_l_written ?c_l_written ?k_l_written ?a_l_end_text ?l_l_end_text ?c_l_end_text ?k_l_end_text ?a_l_reading ?l_l_reading ?c_l_reading ?k_l_reading ?a_l_bad_part ?l_l_bad_part ?c_l_bad_part ?k_l_bad_part ?a_l_spoilt ?l_l_spoilt ?c_l_spoilt ?k_l_spoilt ?a_l_bent_right ?l_l_bent_right ?c_l_bent_right ?k_l_bent_right ?a_l_limit_of ?l_l_limit_of ?c_l_limit_of ?k_l_limit_of ?a_l_told_again ?l_l_told_again ?c_l_told_again ?k_l_told_again ?a_law ?l_law ?c_law ?k_law ?a_ratio ?l_ratio ?c_ratio ?k_ratio ?t_ratio ?aC_SheetError ?aC_ZeroBottom ?aC_InvalidNumber ?aC_InvalidText ?aC_BadText ?special ?takes ?kS_ZeroBottom ?ga_ZeroBottom ?gg_ZeroBottom ?sb_ZeroBottom ?hd_ZeroBottom ?ha_ZeroBottom ?hm_ZeroBottom ?ty_ZeroBottom ?kp_ZeroBottom ?ex_ZeroBottom ?xp_ZeroBottom ?kS_InvalidNumber ?ga_InvalidNumber ?gg_InvalidNumber ?sb_InvalidNumber ?hd_InvalidNumber ?ha_InvalidNumber ?hm_InvalidNumber ?ty_InvalidNumber ?kp_InvalidNumber ?ex_InvalidNumber ?x_InvalidNumber ?sa_InvalidNumber ?no_InvalidNumber ?i_InvalidNumber ?ti_InvalidNumber ?l_InvalidNumber_init ?c_InvalidNumber_init ?k_InvalidNumber_init ?kS_InvalidText ?ga_InvalidText ?gg_InvalidText ?sb_InvalidText ?hd_InvalidText ?ha_InvalidText ?hm_InvalidText ?ty_InvalidText ?kp_InvalidText ?ex_InvalidText ?x_InvalidText ?sa_InvalidText ?no_InvalidText ?i_InvalidText ?ti_InvalidText ?l_InvalidText_init ?c_InvalidText_init ?k_InvalidText_init ?kS_BadText ?ga_BadText ?gg_BadText ?sb_BadText ?hd_BadText ?ha_BadText ?hm_BadText ?ty_BadText ?kp_BadText ?ex_BadText ?x_BadText ?sa_BadText ?no_BadText ?i_BadText ?ti_BadText ?l_BadText_init ?c_BadText_init ?k_BadText_init ?v_GROUP_UNIT ?v_GROUP_DIGITS ?v_NAME_LETTERS ?aZ_FUNCTION_WORDS ?lZ_FUNCTION_WORDS ?n_len ?n_max ?n_abs ?n_any ?n_all ?n_isinstance ?n_range ?n_zip ?n_int ?n_bool ?n_tuple ?n_list ?n_divmod ?n_str ?n_sorted ?g_gcd
    (case a_is_whole => k_is)
    (case l_is_whole => k_is)
    (case c_is_whole => k_is)
    (case k_is_whole => k_is)
    (case a_is_ratio => k_is)
    (case l_is_ratio => k_is)
    (case c_is_ratio => k_is)
    (case k_is_ratio => k_is)
    (case a_as_ratio => k_is)
    (case l_as_ratio => k_is)
    (case c_as_ratio => k_is)
    (case k_as_ratio => k_is)
    (case a_ratio_text => k_is)
    (case l_ratio_text => k_is)
    (case c_ratio_text => k_is)
    (case k_ratio_text => k_is)
    (case a_integer_text => k_is)
    (case l_integer_text => k_is)
    (case c_integer_text => k_is)
    (case k_integer_text => k_is)
    (case a_read_ratio => k_is)
    (case l_read_ratio => k_is)
    (case c_read_ratio => k_is)
    (case k_read_ratio => k_is)
    (case a_are_digits => k_is)
    (case l_are_digits => k_is)
    (case c_are_digits => k_is)
    (case k_are_digits => k_is)
    (case a_read_digits => k_is)
    (case l_read_digits => k_is)
    (case c_read_digits => k_is)
    (case k_read_digits => k_is)
    (case a_is_name => k_is)
    (case l_is_name => k_is)
    (case c_is_name => k_is)
    (case k_is_name => k_is)
    (case a_table_text => k_is)
    (case l_table_text => k_is)
    (case c_table_text => k_is)
    (case k_table_text => k_is)
    (case a_read_table => k_is)
    (case l_read_table => k_is)
    (case c_read_table => k_is)
    (case k_read_table => k_is)
    (case a_limits_text => k_is)
    (case l_limits_text => k_is)
    (case c_limits_text => k_is)
    (case k_limits_text => k_is)
    (case a_limit_text => k_is)
    (case l_limit_text => k_is)
    (case c_limit_text => k_is)
    (case k_limit_text => k_is)
    (case a_read_limits => k_is)
    (case l_read_limits => k_is)
    (case c_read_limits => k_is)
    (case k_read_limits => k_is)
    (case a_parts_of => k_is)
    (case l_parts_of => k_is)
    (case c_parts_of => k_is)
    (case k_parts_of => k_is)
    (case a_all_read => k_is)
    (case l_all_read => k_is)
    (case c_all_read => k_is)
    (case k_all_read => k_is)
    (case a_read_number => k_is)
    (case l_read_number => k_is)
    (case c_read_number => k_is)
    (case k_read_number => k_is)
    (case a_read_entry => k_is)
    (case l_read_entry => k_is)
    (case c_read_entry => k_is)
    (case k_read_entry => k_is)
    (case a_read_limit => k_is)
    (case l_read_limit => k_is)
    (case c_read_limit => k_is)
    (case k_read_limit => k_is)
    (case a_read_bounds => k_is)
    (case l_read_bounds => k_is)
    (case c_read_bounds => k_is)
    (case k_read_bounds => k_is)
    (case a_l_box => k_is)
    (case l_l_box => k_is)
    (case c_l_box => k_is)
    (case k_l_box => k_is)
    (case a_l_mixed => k_is)
    (case l_l_mixed => k_is)
    (case c_l_mixed => k_is)
    (case k_l_mixed => k_is)
    (case a_l_take => k_is)
    (case l_l_take => k_is)
    (case c_l_take => k_is)
    (case k_l_take => k_is)
    (case a_l_shuffled => k_is)
    (case l_l_shuffled => k_is)
    (case c_l_shuffled => k_is)
    (case k_l_shuffled => k_is)
    (case a_l_names => k_is)
    (case l_l_names => k_is)
    (case c_l_names => k_is)
    (case k_l_names => k_is)
    (case a_l_shared => k_is)
    (case l_l_shared => k_is)
    (case c_l_shared => k_is)
    (case k_l_shared => k_is)
    (case a_l_ratio => k_is)
    (case l_l_ratio => k_is)
    (case c_l_ratio => k_is)
    (case k_l_ratio => k_is)
    (case a_l_before => k_is)
    (case l_l_before => k_is)
    (case c_l_before => k_is)
    (case k_l_before => k_is)
    (case a_l_number => k_is)
    (case l_l_number => k_is)
    (case c_l_number => k_is)
    (case k_l_number => k_is)
    (case a_l_given => k_is)
    (case l_l_given => k_is)
    (case c_l_given => k_is)
    (case k_l_given => k_is)
    (case a_l_written => k_is)
    (case l_l_written => k_is)
    (case c_l_written => k_is)
    (case k_l_written => k_is)
    (case a_l_end_text => k_is)
    (case l_l_end_text => k_is)
    (case c_l_end_text => k_is)
    (case k_l_end_text => k_is)
    (case a_l_reading => k_is)
    (case l_l_reading => k_is)
    (case c_l_reading => k_is)
    (case k_l_reading => k_is)
    (case a_l_bad_part => k_is)
    (case l_l_bad_part => k_is)
    (case c_l_bad_part => k_is)
    (case k_l_bad_part => k_is)
    (case a_l_spoilt => k_is)
    (case l_l_spoilt => k_is)
    (case c_l_spoilt => k_is)
    (case k_l_spoilt => k_is)
    (case a_l_bent_right => k_is)
    (case l_l_bent_right => k_is)
    (case c_l_bent_right => k_is)
    (case k_l_bent_right => k_is)
    (case a_l_limit_of => k_is)
    (case l_l_limit_of => k_is)
    (case c_l_limit_of => k_is)
    (case k_l_limit_of => k_is)
    (case a_l_told_again => k_is)
    (case l_l_told_again => k_is)
    (case c_l_told_again => k_is)
    (case k_l_told_again => k_is)
    (case a_law => k_is)
    (case l_law => k_is)
    (case c_law => k_is)
    (case k_law => k_is)
    (case a_ratio => k_is)
    (case l_ratio => k_is)
    (case c_ratio => k_is)
    (case k_ratio => k_is)
    (case t_ratio => k_is)
    (case aC_SheetError => k_is)
    (case aC_ZeroBottom => k_is)
    (case aC_InvalidNumber => k_is)
    (case aC_InvalidText => k_is)
    (case aC_BadText => k_is)
    (case special => first | rfl | k_is)
    (case takes => first | rfl | k_is)
    (case kS_ZeroBottom => first | rfl | k_is)
    (case ga_ZeroBottom => k_is)
    (case gg_ZeroBottom => k_is)
    (case sb_ZeroBottom => k_is)
    (case hd_ZeroBottom => k_is)
    (case ha_ZeroBottom => k_is)
    (case hm_ZeroBottom => k_is)
    (case ty_ZeroBottom => k_is)
    (case kp_ZeroBottom => k_is)
    (case ex_ZeroBottom => first | rfl | k_is)
    (case xp_ZeroBottom => k_exc)
    (case kS_InvalidNumber => first | rfl | k_is)
    (case ga_InvalidNumber => k_is)
    (case gg_InvalidNumber => k_is)
    (case sb_InvalidNumber => k_is)
    (case hd_InvalidNumber => k_is)
    (case ha_InvalidNumber => k_is)
    (case hm_InvalidNumber => k_is)
    (case ty_InvalidNumber => k_is)
    (case kp_InvalidNumber => k_is)
    (case ex_InvalidNumber => first | rfl | k_is)
    (case x_InvalidNumber => k_is)
    (case sa_InvalidNumber => k_is)
    (case no_InvalidNumber => k_is)
    (case i_InvalidNumber => k_is)
    (case ti_InvalidNumber => k_is)
    (case l_InvalidNumber_init => k_is)
    (case c_InvalidNumber_init => k_is)
    (case k_InvalidNumber_init => k_is)
    (case kS_InvalidText => first | rfl | k_is)
    (case ga_InvalidText => k_is)
    (case gg_InvalidText => k_is)
    (case sb_InvalidText => k_is)
    (case hd_InvalidText => k_is)
    (case ha_InvalidText => k_is)
    (case hm_InvalidText => k_is)
    (case ty_InvalidText => k_is)
    (case kp_InvalidText => k_is)
    (case ex_InvalidText => first | rfl | k_is)
    (case x_InvalidText => k_is)
    (case sa_InvalidText => k_is)
    (case no_InvalidText => k_is)
    (case i_InvalidText => k_is)
    (case ti_InvalidText => k_is)
    (case l_InvalidText_init => k_is)
    (case c_InvalidText_init => k_is)
    (case k_InvalidText_init => k_is)
    (case kS_BadText => first | rfl | k_is)
    (case ga_BadText => k_is)
    (case gg_BadText => k_is)
    (case sb_BadText => k_is)
    (case hd_BadText => k_is)
    (case ha_BadText => k_is)
    (case hm_BadText => k_is)
    (case ty_BadText => k_is)
    (case kp_BadText => k_is)
    (case ex_BadText => first | rfl | k_is)
    (case x_BadText => k_is)
    (case sa_BadText => k_is)
    (case no_BadText => k_is)
    (case i_BadText => k_is)
    (case ti_BadText => k_is)
    (case l_BadText_init => k_is)
    (case c_BadText_init => k_is)
    (case k_BadText_init => k_is)
    (case v_GROUP_UNIT => k_is)
    (case v_GROUP_DIGITS => k_is)
    (case v_NAME_LETTERS => k_is)
    (case aZ_FUNCTION_WORDS => k_is)
    (case lZ_FUNCTION_WORDS => k_is)
    (case n_len => k_is)
    (case n_max => k_is)
    (case n_abs => k_is)
    (case n_any => k_is)
    (case n_all => k_is)
    (case n_isinstance => k_is)
    (case n_range => k_is)
    (case n_zip => k_is)
    (case n_int => k_is)
    (case n_bool => k_is)
    (case n_tuple => k_is)
    (case n_list => k_is)
    (case n_divmod => k_is)
    (case n_str => k_is)
    (case n_sorted => k_is)
    (case g_gcd => k_is)
