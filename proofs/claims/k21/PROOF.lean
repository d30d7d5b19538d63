import PyProof.Rows.All
import Wide.All
import OpenK.AllK
import Wide.FinOn
import HandS.ForMost
import HandS.IsInst
import HandS.Style
import PyProof.ReprRoads
import KE.KExcInit
import KE.KExcSuper
import KE.KSuper
import PyProof.ExcClass
import KE.KExcMake
import HandS.ExcField
import HandS.ExcOwn
import HandS.ExcInit
import HandS.ExcValue
import PyProof.Rows.Own
import HandS.ExcIs
import HandS.Defaults
import HandS.Walk
import HandS.SetFor
import PySem.Challenge.RW_eitherside_k21_errors
set_option Elab.async false
set_option linter.all false
set_option maxRecDepth 100000
set_option maxHeartbeats 8000000
/-! repr of data, where no repr is under way around the def: the promise of a def is asked only at such arounds. -/
namespace Vr
open PySem PySem.Spec PyProof.Rows L2
section
variable {X : Cx}
/-- repr(x), x any data without dicts -/
def rReprD (K : PySem.W.Frag) : List V → Hp → VK → Prop := fun xs H Q =>
  ∃ (x : V) (d : PyData), xs = [x] ∧ Dp K H x d ∧ SeqAt.shaped d = true ∧ d.showable = true ∧ d.shown.length ≤ sizeLine ∧ Q (.str d.shown) H
theorem call_reprD {k : Nat} (hg : X.A.guards = some []) (hr : Room k X.A) : CallR X (.builtin "repr") (rReprD X.K) := by
  intro pins s σ H xs us Q I r h
  obtain ⟨x, d, rfl, hd, hs, hw, hz, q⟩ := h
  obtain ⟨u, rfl, ru⟩ := vals1 r
  have nd : d.hasDict = false := PyData.hasDict_of_canLay d (SeqAt.canLay_of_shaped hs)
  have dd := SeqAt.depth_of_shaped hs
  have un := hr.un
  cases hd with
  | non =>
    cases (show u = Value.none from ru)
    exact PySem.P.repr_of_none ⟨.str _, H, I.tok _, ⟨_, rfl⟩, q⟩
  | bl b =>
    cases (show u = Value.bool b from ru)
    exact PySem.P.repr_of_bool ⟨.str _, H, I.tok _, ⟨_, rfl⟩, q⟩
  | int i =>
    obtain ⟨t, e⟩ := (show ∃ t, u = Value.int i t from ru)
    subst e
    exact PySem.P.repr_of_int (by simpa [PyData.showable] using hw) ⟨.str _, H, I.tok _, ⟨_, rfl⟩, q⟩
  | str y =>
    obtain ⟨t, e⟩ := (show ∃ t, u = Value.str y t from ru)
    subst e
    exact PySem.P.repr_of_str ⟨.str _, H, I.tok _, ⟨_, rfl⟩, q⟩ hz
  | @lst a ys ds h1 h2 =>
    cases (show u = Value.ref a from ru)
    obtain ⟨as, rd⟩ := Dp.reads I _ _ _ (Dp.lst h1 h2) (show RelV (.ref a) (.ref a) from rfl)
    refine repr_of_reads' rd hw (fun z => ?_) hg (by omega) (fun _ _ e => e) (fun h' t tk hk => ?_) hz
    · rw [nd] at z
      cases z
    · exact ⟨.str _, H, I.kept hk, ⟨t, rfl⟩, q⟩
  | @tup a ys ds h1 h2 =>
    cases (show u = Value.ref a from ru)
    obtain ⟨as, rd⟩ := Dp.reads I _ _ _ (Dp.tup h1 h2) (show RelV (.ref a) (.ref a) from rfl)
    refine repr_of_reads' rd hw (fun z => ?_) hg (by omega) (fun _ _ e => e) (fun h' t tk hk => ?_) hz
    · rw [nd] at z
      cases z
    · exact ⟨.str _, H, I.kept hk, ⟨t, rfl⟩, q⟩
end

/-- a def's promise, asked only where no repr is under way -/
structure GOk (P : Program) (w : World) (K : PySem.W.Frag) (mg : Str → Option Value)
    (base : Heap) (CX : CXT) (k : Nat) (f : Addr) (fd : FuncData) (ps : List Str) (sp : Sp) : Prop where
  len : ∀ vs H Q E, sp vs H Q E → vs.length = ps.length
  run : ∀ (A : Around) (outer : List Env) (s : Shared) (H : Hp) (args : Args) (us : List Value) (vs : List V) (Q : VK) (E : XK),
    A.guards = some [] → Room k A → Env0 P w K mg base A outer s H → BindsTo s fd args (ps.zip us) → Vals vs us → sp vs H Q E →
      codeAny (model P w) A (.call (.ref f) args) (CR CX outer P w H s Q E) s

section
variable {P : Program} {w : World} {K : PySem.W.Frag} {mg : Str → Option Value} {base : Heap} {CX : CXT} {k : Nat}
theorem GOk.of {f : Addr} {fd : FuncData} {ps : List Str} {sp : Sp} (F : FnOk P w K mg base CX k f fd ps sp) : GOk P w K mg base CX k f fd ps sp :=
  { len := F.len, run := fun A outer s H args us vs Q E _ => F.run A outer s H args us vs Q E }

/-- the body's derivation may use that no repr is under way -/
theorem gok_of {f : Addr} {name qual : Str} {params : Arguments} {body : List Stmt} {scope : Scope} {dV kV doc pm cdv ct oc : Value} {an od : Option Addr}
    {osl : Array (Option Value)} {N ps : List Str} {sp : Sp}
    (lk : K.lookup f = some ⟨oc, od, .func (PySem.W.fnOf name qual params body scope dV kV doc pm an cdv ct), osl⟩)
    (hcd : PySem.W.codeIn K cdv qual = true) (S : FnScope N ps scope) (len : ∀ vs H Q E, sp vs H Q E → vs.length = ps.length)
    (hbody : ∀ (A : Around) (outer : List Env) (s : Shared) (H : Hp) (vs : List V) (Q : VK) (E : XK), A.guards = some [] →
      Room k (A.deeper (envOfC qual scope s.heap.objs.size f cdv)) → sp vs H Q E →
      ∃ t, PSs (cxOf CX P w K mg base N qual scope f cdv A outer s H E) body t ∧ t { nx := fun _ H' => Q .non H', rt := Q } (start N vs) H) :
    GOk P w K mg base CX (k + 1) f (PySem.W.fnOf name qual params body scope dV kV doc pm an cdv ct) ps sp where
  len := len
  run := by
    intro A outer s H args us vs Q E gA room e0 bind rel prom
    have lenV := len vs H Q E prom
    have old : ∀ b o, base.get? b = some o → s.heap.get? b = some o := fun b o e => (e0.bs b o e).1
    have inK : K.In s.heap := e0.mod.kin.keeps old
    have nolim : s.heap.NoLimit := e0.mod.nolimit.keeps old
    refine codeAny_call_function room.depth (inK f _ lk) rfl S.co S.gen rfl (PySem.W.codeRec_of inK hcd) (bind _ _ _ _ ?_)
    refine wpAny_newFunctionEnv_cells S.kind ?_ ?_
    · intro ⟨n, v⟩ mem
      cases S.par n (List.of_mem_zip mem).1 with
      | inl q => exact Or.inl q
      | inr q => exact Or.inr ⟨q, PySem.W.cellsFrom_some _ _ _ (Or.inl q)⟩
    · intro env eenv s1 inCall
      cases eenv
      refine ⟨nolim.keeps inCall.toInCall.keep, codeAny_func ?_⟩
      obtain ⟨t, der, rd⟩ := hbody A outer s H vs Q E gA (room.deeper _) prom
      have start0 := inv_start (CX := CX) (E := E) S room.hd e0 lenV rel inCall
      refine wpAny_mono (der.run [] s1 (start N vs) H _ start0 rd) ?_ (fun _ _ x => x)
      intro flow s' done
      cases flow with
      | ret u =>
        obtain ⟨v, σ', H', J, rv, q⟩ := done
        exact ⟨v, H', J.os, J.bare, J.base, J.hok, rv, q⟩
      | next =>
        obtain ⟨σ', H', J, q⟩ := done
        exact ⟨V.non, H', J.os, J.bare, J.base, J.hok, rfl, q⟩
      | brk =>
        obtain ⟨_, _, _, q⟩ := done
        exact q.elim
      | cont =>
        obtain ⟨_, _, _, q⟩ := done
        exact q.elim
end
end Vr
namespace Vr
open PySem PySem.Spec PyProof.Rows L2
/-- the row's end, from a promise of the law's def that is asked where no repr is under way -/
theorem end_of {l : PySem.W.OpenLaw} {n k : Nat} {q : Program} {loose : List Str} {XP : (Str → Option Value) → Heap → Prop}
    {YP : World → Heap → Prop} {d : DefRec} {K : Params → PySem.W.Frag} {sp : PySem.W.Frag → Sp} {x : Str}
    (hn : l.most = some n) (small : n ≤ sizeLine) (nod : d.params.defaults = []) (room : Room k callerA)
    (inK : ∀ (w : World) (h : Heap), YP w h → (K w.params).In h)
    (F : ∀ (w : World) (mg : Str → Option Value) (fa : Addr) (h : Heap), (K w.params).In h → h.Ns mainGlobals mg → mg d.name = some (.ref fa) →
      ∃ fd : FuncData, (∀ (s : Shared) (u : Value), BindsTo s fd ⟨[u], []⟩ [(x, u)]) ∧
        ∀ base : Heap, (K w.params).In base → base.Ns mainGlobals mg → GOk l.prog w (K w.params) mg base CX0 k fa fd [x] (sp (K w.params)))
    (prom : ∀ (K : PySem.W.Frag) (H : Hp) (a : Addr) (ns : List Int), ns.length ≤ n → Only H → SqL K H a (ns.map V.int) →
      sp K [.ref a] H (fun v _ => v = .bl true) fun _ _ _ => False) :
    PySem.W.WalkO q loose XP YP l.row.toRowW d [] (fun f vs => PySem.call f vs) := by
  refine Att.attach_call hn nod ?_
  intro w s₀ s₁ mg mb fa o pm cd doc a vs ns G Y ho hd hcd hmg hobj hints hlen gens
  have KX := inK w _ Y
  obtain ⟨fd, hb, hF⟩ := F w mg fa _ KX G.T.g hmg
  have rel : Vals (ns.map V.int) vs := vals_ints hints
  have len2 : (ns.map V.int).length ≤ sizeLine := by
    rw [List.length_map]
    exact Nat.le_trans hlen small
  generalize hU : (HO.frz { cls := .type "list", data := .seq vs.toArray } (.lst (ns.map V.int))) = U
  obtain ⟨H, hH⟩ : ∃ H : Hp, ∀ b, H b = if b = a ∧ (K w.params).lookup a = none then some U else none := ⟨_, fun _ => rfl⟩
  have tr : ∀ b u, H b = some u → b = a ∧ (K w.params).lookup a = none ∧ u = U := by
    intro b u e
    rw [hH] at e
    by_cases c : b = a ∧ (K w.params).lookup a = none
    · rw [if_pos c] at e
      cases e
      exact ⟨c.1, c.2, rfl⟩
    · rw [if_neg c] at e
      cases e
  have untr : ∀ b, (H b = none → False) → b = a ∧ (K w.params).lookup a = none := by
    intro b z
    cases e : H b with
    | none => exact (z e).elim
    | some u => exact ⟨(tr b u e).1, (tr b u e).2.1⟩
  have hok : HOk l.prog w H s₁.heap := by
    intro b u e
    obtain ⟨rfl, _, rfl⟩ := tr b u e
    rw [← hU]
    exact ⟨hobj, len2, vs, _, rel, hobj⟩
  have only : Only H := by
    intro b
    cases e : H b with
    | none => exact Or.inl rfl
    | some u =>
      have e2 := (tr b u e).2.2
      rw [← hU] at e2
      exact Or.inr ⟨_, _, congrArg some e2⟩
  have here : SqL (K w.params) H a (ns.map V.int) := by
    cases e : (K w.params).lookup a with
    | none =>
      have e2 := hH a
      rw [if_pos ⟨rfl, e⟩, ← hU] at e2
      exact Or.inl (Or.inr ⟨_, e2⟩)
    | some o' =>
      have e2 := KX a o' e
      rw [hobj] at e2
      cases e2
      refine Or.inr ⟨_, vs.toArray, _, e, rfl, rfl, rfl, ?_, by simpa using rel⟩
      rw [List.size_toArray, hints.length]
      exact Nat.le_trans hlen small
  have bget : ∀ (b : Addr) (u : Obj), s₁.heap.get? b = some u → H b = none → (hidT s₁.heap H).get? b = some u := fun b u e z => hidT_get e z
  have bns : ∀ (b : Addr) (m : Str → Option Value), s₁.heap.Ns b m → (hidT s₁.heap H).Ns b m := by
    intro b m ⟨u, es, ep, e, hd2, rest⟩
    refine ⟨u, es, ep, bget b u e (Classical.byContradiction fun z => ?_), hd2, rest⟩
    obtain ⟨rfl, _⟩ := untr b z
    rw [hobj] at e
    cases e
    cases (show Data.seq vs.toArray _ = Data.dict es ep from hd2)
  have bK : (K w.params).In (hidT s₁.heap H) := by
    intro b u e
    refine bget b u (KX b u e) (Classical.byContradiction fun z => ?_)
    obtain ⟨rfl, z2⟩ := untr b z
    rw [z2] at e
    cases e
  have md : L2.Mod (K w.params) mg (hidT s₁.heap H) := by
    obtain ⟨mc, c1, c2⟩ := G.T.nolimit
    exact ⟨bK, bns _ _ G.T.g, ⟨mb, bns _ _ G.T.b, G.T.builtins⟩, ⟨mc, bns _ _ c1, c2⟩⟩
  have e0 : Env0 l.prog w (K w.params) mg (hidT s₁.heap H) callerA [] s₁ H :=
    { frames := rfl, mod := md, bs := fun b u e => of_hidT e, bsz := Nat.le_of_eq (hidT_size _ _), funs := trivial
      frf := fun b z => absurd (show b ∈ ([] : List Addr) from z) List.not_mem_nil, hok := hok, bare := AllBare.of_eq gens }
  refine codeAny_mono ((hF _ bK (bns _ _ G.T.g)).run callerA [] s₁ H ⟨[.ref a], []⟩ [.ref a] [.ref a] _ _ rfl room e0 (hb s₁ (.ref a)) (.cons rfl .nil)
    (prom _ H a ns hlen only here)) ?_
  intro r s' fin
  match r, fin with
  | .ok (.ret u), ⟨v, H', os, bare, un, hok', rv, e⟩ =>
    cases (show v = V.bl true from e)
    cases (show u = Value.bool true from rv)
    refine ⟨rfl, OldK.of_keep ?_, os, bare⟩
    intro b ob e1
    cases e2 : H b with
    | none => exact un.keep b ob e1 e2 (fun z => absurd (show b ∈ ([] : List Addr) from z) List.not_mem_nil) List.not_mem_nil
    | some t =>
      have e3 := e2
      rw [(tr b t e2).2.2, ← hU] at e3
      obtain ⟨g1, _⟩ := hok b _ e3
      obtain ⟨g2, _⟩ := hok' b _ (un.frzs b _ _ e3)
      rw [e1] at g1
      cases g1
      exact g2
end Vr
namespace VB
open PySem PySem.W PyProof.Rows
abbrev keTail : List Value := [.type "KeyError", .type "LookupError", .type "Exception", .type "BaseException", .type "object"]
abbrev leTail : List Value := keTail.drop 1
abbrev ieTail : List Value := .type "IndexError" :: leTail
abbrev aeTail : List Value := .type "ArithmeticError" :: keTail.drop 2
abbrev veT : List Value := .type "ValueError" :: keTail.drop 2
abbrev teTail : List Value := .type "TypeError" :: keTail.drop 2
abbrev reTail : List Value := .type "RuntimeError" :: keTail.drop 2
/-! ### an own class over a built-in exception, called: with names or without -/
section
variable {M : Model} {A : Around} {E : Value → Shared → Prop} {h : Heap} {g : Array GenState} {d : Drawn} {t : Nat} {os : OsState}
variable {nm q : Str} {C N : Addr} {bs bm bmB : List Value} {hdct : Bool} {sn : List Str} {sub : List Value} {ab : Bool} {col : Option Bool} {dd : Option Addr} {k0 k1 k2 k3 k5 : Option Value} {B newId initId : String}
/-- the class at C, made by newId -/
def At (h : Heap) (C : Addr) (bm : List Value) (newId : String) : Prop := ∃ nm q N bs hdct sn sub ab col dd k0 k1 k2 k3 k5, h.get? C = some (excClassObj nm q C N bs bm hdct sn sub ab col dd k0 k1 k2 k3 k5 newId)
/-- what its mro says of the built-in B -/
structure Over (bm : List Value) (B : String) : Prop where
  b : bm.contains (.type B) = true
  a : bm.contains (.type "AttributeError") = false
  n : bm.contains (.type "NameError") = false
theorem checkNew (F : ExcBaseFacts B newId initId bmB) (O : Over bm B) {vs : List Value} {kw : List (Str × Value)} {Q : Unit → Shared → Prop} (hC : At h C bm newId) (hq : Q () ⟨h, g, d, t, os⟩) :
    wpAny M A (checkBuiltinCall newId ⟨.ref C :: vs, kw⟩) Q E ⟨h, g, d, t, os⟩ := by
  obtain ⟨nm, q, N, bs, hdct, sn, sub, ab, col, dd, k0, k1, k2, k3, k5, hC⟩ := hC
  have inB : (Value.ref C :: bm).contains (.type B) = true := by rw [List.contains_cons, O.b, Bool.or_true]
  have ns := F.noStar
  simp only [checkBuiltinCall, F.newKind, F.newSplit, F.newRow]
  repeat (first
    | refine wpAny_loadPart_at hC ?_
    | (refine wpAny_isSubtype_exc hC ?_; rw [inB])
    | refine wpAny_staticBase_exc hC ?_
    | refine wpAny_madeBy_exc hC ?_
    | simp only [bne_self_eq_false, Bool.false_eq_true, if_false]
    | wp_step)
  all_goals exact hq
end
section
variable {prog : Program} {w : World} {A : Around} {E : Value → Shared → Prop} {R : Result → Shared → Prop} {h : Heap} {g : Array GenState} {d : Drawn} {t : Nat} {os : OsState}
variable {C : Addr} {bm bmB : List Value} {B newId initId : String}
theorem runNew (F : ExcBaseFacts B newId initId bmB) (O : Over bm B) {vs : List Value} {kw : List (Str × Value)} (hC : At h C bm newId) (hz : vs.length ≤ sizeLine)
    (hq : R (.ok (.ret (.ref (h.objs.size + 1)))) ⟨(h.push (excTup vs)).push (excObj C h.objs.size none .none), g, d, t, os⟩) :
    codeAny (model prog w) A (.builtin newId ⟨.ref C :: vs, kw⟩) R ⟨h, g, d, t, os⟩ := by
  obtain ⟨nm, q, N, bs, hdct, sn, sub, ab, col, dd, k0, k1, k2, k3, k5, hC⟩ := hC
  have e0 := F.ends
  have inB : (Value.ref C :: bm).contains (.type B) = true := by rw [List.contains_cons, O.b, Bool.or_true]
  have inA : (Value.ref C :: bm).contains (.type "AttributeError") = false := by rw [List.contains_cons, O.a] <;> rfl
  have inN : (Value.ref C :: bm).contains (.type "NameError") = false := by rw [List.contains_cons, O.n] <;> rfl
  refine codeAny_builtinAt F.entry ?_
  unfold Builtin.«BaseException.__new__»
  refine PySem.wpAt_bind ?_
  show PySem.wpAt _ _ _ (stack >>= _) _ _ _
  refine PySem.wpAt_bind (PySem.wpAt_stack fun p below => PySem.wpAt_of_wpAny ?_)
  wp_walk
  refine PySem.wpAt_of_wpAny ?_
  rw [F.owner]
  repeat (first
    | with_reducible refine wpAny_madeHere_exc F.canon hC ?_
    | with_reducible refine wpAny_loadPart_at hC ?_
    | (with_reducible refine wpAny_isSubtype_exc hC ?_; first | rw [inB] | rw [inA] | rw [inN])
    | wp_step)
  show R _ _
  rw [Heap.size_push]
  exact hq
theorem runType (F : ExcBaseFacts B newId initId bmB) (O : Over bm B) {vs : List Value} {kw : List (Str × Value)} {fI : Addr} {Q : Fin → Shared → Prop} (hC : At h C bm newId)
    (hi : W.Looks (model prog w) h (typeLookup (.ref C) "__init__") (some (.ref fI))) (hb : ∀ self, W.Looks (model prog w) h (bindSpecial (.ref fI) self) (.ref fI, [self])) (hz : vs.length ≤ sizeLine)
    (hq : codeAny (model prog w) A (.call (.ref fI) ⟨.ref (h.objs.size + 1) :: vs, kw⟩)
      (fun r s' => match r with | .ok (.ret v) => v = .none ∧ Q (.done (.ret (.ref (h.objs.size + 1)))) s' | .ok _ => False | .error e => E e s') ⟨(h.push (excTup vs)).push (excObj C h.objs.size none .none), g, d, t, os⟩) :
    wpAny (model prog w) A (Builtin.«type.__call__» ⟨.ref C :: vs, kw⟩) Q E ⟨h, g, d, t, os⟩ := by
  have hC' := hC
  obtain ⟨nm, q, N, bs, hdct, sn, sub, ab, col, dd, k0, k1, k2, k3, k5, hC⟩ := hC
  repeat (first | with_reducible refine wpAny_loadPart_at hC ?_ | with_reducible refine wpAny_madeBy_exc hC ?_ | wp_step)
  refine codeAny_call_builtin_code (Code.quiet_builtin _ F.quiet) (checkNew F O hC' ?_)
  refine runNew F O hC' hz ?_
  show wpAny _ _ _ _ _ _
  have up : ∀ b o, h.get? b = some o → ((h.push (excTup vs)).push (excObj C h.objs.size none .none)).get? b = some o := fun b o e => Heap.get?_push_of_some _ (Heap.get?_push_of_some _ e)
  have hC1 := up _ _ hC
  have at1 : ((h.push (excTup vs)).push (excObj C h.objs.size none .none)).get? (h.objs.size + 1) = some (excObj C h.objs.size none .none) := by heap_get
  have inC : (Value.ref C :: bm).contains (.ref C) = true := by simp
  have i1 := hi.keeps up
  have b1 := (hb (.ref (h.objs.size + 1))).keeps up
  unfold isInstance
  repeat (first | with_reducible refine wpAny_loadPart_at at1 ?_ | (with_reducible refine wpAny_isSubtype_exc hC1 ?_; rw [inC]) | wp_step)
  show wpAny _ _ (typeLookup (.ref C) _) _ _ _
  refine i1.at ?_
  refine wpAny_holding (wpAny_bind (b1.at ?_))
  refine wpAny_bind (wpAny_call (codeAny_mono hq fun r s' z => ?_))
  rcases r with e | (v | _ | _ | _) <;> first | exact z | exact z.elim | skip
  obtain ⟨rfl, z⟩ := z
  first
    | exact wpAny_pure (wpAny_pure z)
    | (wp_walk; exact z)
theorem checkType {M : Model} {vs : List Value} {kw : List (Str × Value)} {Q : Unit → Shared → Prop} (hC : At h C bm newId) (hq : Q () ⟨h, g, d, t, os⟩) : wpAny M A (checkBuiltinCall "type.__call__" ⟨.ref C :: vs, kw⟩) Q E ⟨h, g, d, t, os⟩ := by
  obtain ⟨nm, q, N, bs, hdct, sn, sub, ab, col, dd, k0, k1, k2, k3, k5, hC⟩ := hC
  have f3 := tc_sub
  have hT : (⟨h, g, d, t, os⟩ : Shared).TypeIs (.ref C) "type" := ⟨_, hC, rfl⟩
  simp only [checkBuiltinCall, tc_kind, tc_split]
  repeat (any_goals (first | assumption | with_reducible refine wpAny_loadPart_at hC ?_ | with_reducible refine wpAny_onRaise ?_ | with_reducible refine wpAny_map ?_ | wp_step))
theorem runCall (F : ExcBaseFacts B newId initId bmB) (O : Over bm B) {vs : List Value} {kw : List (Str × Value)} {fI : Addr} (hC : At h C bm newId)
    (hi : W.Looks (model prog w) h (typeLookup (.ref C) "__init__") (some (.ref fI))) (hb : ∀ self, W.Looks (model prog w) h (bindSpecial (.ref fI) self) (.ref fI, [self])) (hz : vs.length ≤ sizeLine)
    (hq : codeAny (model prog w) (A.under (.builtin "type.__call__" ⟨.ref C :: vs, kw⟩)) (.call (.ref fI) ⟨.ref (h.objs.size + 1) :: vs, kw⟩) (W.InitBack (h.objs.size + 1) R)
      ⟨(h.push (excTup vs)).push (excObj C h.objs.size none .none), g, d, t, os⟩) :
    codeAny (model prog w) A (.call (.ref C) ⟨vs, kw⟩) R ⟨h, g, d, t, os⟩ := by
  have f1 := tc_lookup
  have f2 := tc_bind (.ref C)
  have hC' := hC
  obtain ⟨nm, q, N, bs, hdct, sn, sub, ab, col, dd, k0, k1, k2, k3, k5, hC⟩ := hC
  have hT : (⟨h, g, d, t, os⟩ : Shared).TypeIs (.ref C) "type" := ⟨_, hC, rfl⟩
  refine codeAny_of_tree ?_
  show wpAny _ _ (callAny (.ref C) _) _ _ _
  repeat (any_goals (first | assumption | with_reducible refine wpAny_loadPart_at hC ?_ | wp_step))
  refine ⟨rfl, ?_⟩
  refine codeAny_call_builtin_at (Code.quiet_builtin _ (by decide +kernel)) entry_typeCall (checkType hC' (runType F O hC' hi hb hz ?_))
  refine codeAny_mono hq fun r s' z => ?_
  rcases r with e | (v | _ | _ | _) <;> exact z
end
end VB
namespace Vr
open PySem PySem.Spec PyProof.Rows L2
section
open Builtin Builtin.List PySem.AutoSeq1
set_option maxRecDepth 8000
/-- xs.extend(t), t a tuple object of any further make -/
theorem meets_extT (l : Addr) (items : Array Value) (n : Nat) (b : Addr) (items2 : Array Value) (n2 : Nat) (dct : Option Addr) (sl : Array (Option Value))
    (long : ¬(!items.isEmpty && Builtin.List.listTooLong (items.size + items2.size)) = true)
    (s1 : items.size ≤ sizeLine) (s2 : items.size + items2.size ≤ sizeLine + 1) :
    Meets (Builtin.«list.extend» ⟨[.ref l, .ref b], []⟩) (fun _ R s =>
      s.heap.get? l = some { cls := .type "list", dict := none, data := .seq items n, slots := #[] } ∧
      s.heap.get? b = some { cls := .type "tuple", dict := dct, data := .seq items2 n2, slots := sl } ∧
      R (.ok (.ret Value.none)) { s with heap := s.heap.update l (Obj.mapSeq fun x => x ++ items2), toks := s.toks }) :=
  .of_wp fun prog w A R s h => by
    obtain ⟨hp, g, d, tk, os⟩ := s
    obtain ⟨hl, hb, h⟩ := h
    have f1 := idx_int
    have f2 := AutoSeq1.sub_tuple_tuple
    have f3 := AutoSeq1.sub_list_list
    have f4 := AutoSeq1.sub_tuple_list
    have f5 := AutoSeq1.sub_list_tuple
    have total : (items ++ items2).size ≤ sizeLine + 1 := by
      rw [Array.size_append]
      exact s2
    wp_walk using (wpAny_updateSeq hl rfl (hz := s1) (_hz' := total)), wpAny_loadPart' hl, wpAny_loadPart' hb
    exact ⟨_, rfl, h⟩
end
section
variable {X : Cx}
def rExtT (K : PySem.W.Frag) : V → List V → Hp → VK → Prop := fun x vs H Q =>
  ∃ (l b : Addr) (xs zs : List V), x = .ref l ∧ vs = [.ref b] ∧ H l = some (.lst xs) ∧ SqT K H b zs ∧ xs.length + zs.length ≤ sizeLine ∧ Q .non (upd H l (.lst (xs ++ zs)))
/-- xs.extend(t), t a tuple -/
theorem mt_extT : MtM X "list.extend" (rExtT X.K) := by
  intro pins s σ H x vs v us Q I rx rv h
  obtain ⟨l, b, xs, zs, rfl, rfl, hl, hb, hz, q⟩ := h
  cases rx
  obtain ⟨u, rfl, ru⟩ := rv.one
  cases ru
  obtain ⟨_, its, n, r, e1, at1⟩ := I.lstM hl
  obtain ⟨its2, r2, ⟨⟨cl, dct, dat, sl⟩, at2, e3, n2, e4⟩, _⟩ := I.tuple hb
  dsimp only at e3 e4
  subst e3 e4
  have e2 : zs.length = its2.length := r2.length
  have both : its.toArray.size + its2.toArray.size ≤ sizeLine := by
    rw [List.size_toArray, List.size_toArray]
    omega
  have long : ¬ (!its.toArray.isEmpty && Builtin.List.listTooLong (its.toArray.size + its2.toArray.size)) = true := by
    rw [notLongL both, Bool.and_false]
    exact Bool.false_ne_true
  refine call_meets F.slot_list_extend ⟨_, at1, rfl⟩ F.entry_list_extend (F.args_list_extend_2 _ _)
    (meets_extT l its.toArray n b its2.toArray n2 dct sl long (Nat.le_trans (Nat.le_add_right _ _) both) (Nat.le_succ_of_le both)) ⟨at1, at2, ?_⟩
  refine ⟨.non, _, I.lset (its' := its ++ its2) hl at1 (by simp) (r.append r2) ?_, rfl, q⟩
  rw [List.length_append]
  exact hz
end
end Vr
namespace VY
open PySem PySem.W PySem.Calls PyProof.Rows VB
/-- a built-in exception's own __init__ -/
structure InF (i B : String) : Prop where
  kind : builtinKind i = some .slot
  row : Manifest.signature? i = some ⟨.positional, "*", B, .self, [⟨"args", .varPos, false⟩]⟩
  ent : entryFor table i = some Builtin.«BaseException.__init__»
  plain : plainId i = true
  star : (B != "*") = true
theorem InF.of {B newId i : String} {bm : List Value} (F : ExcBaseFacts B newId i bm) : InF i B := ⟨F.initKind, F.initRow, F.initEntry, F.init.plain, F.noStar⟩
theorem inKE : InF "KeyError.__init__" "KeyError" := ⟨by decide +kernel, by kernel_rfl, entryFor_alias (id' := "BaseException.__init__") (by rw [fastTable_eq_tree] <;> kernel_rfl) (by first | rfl | decide +kernel) (by decide +kernel) (by rw [fastTable_eq_tree] <;> kernel_rfl), by decide +kernel, by decide +kernel⟩
structure Base (B i newId : String) (bmB : List Value) : Prop where
  new : ∃ B' i' bm', ExcBaseFacts B' newId i' bm' ∧ Over bmB B'
  ini : InF i B
  kx : KxsFacts B i
  pass : ∀ self, refuseLoop self "__setattr__" bmB = pure ()
  ob : bmB.contains (.type "object") = true
theorem Base.of {B newId i : String} {bm : List Value} (F : ExcBaseFacts B newId i bm) (k : KxsFacts B i) (s : StoreFacts B bm "object.__setattr__" "object") : Base B i newId bm := ⟨⟨_, _, _, F, F.hasB, F.noAttr, F.noName⟩, InF.of F, k, s.passes, s.hasOwner⟩
theorem bVE : Base "ValueError" "ValueError.__init__" "ValueError.__new__" veT := .of PySem.F.excBase_ValueError kxs_ValueError PySem.F.store_ValueError
theorem bLE : Base "LookupError" "LookupError.__init__" "LookupError.__new__" leTail := .of PySem.F.excBase_LookupError kxs_LookupError PySem.F.store_LookupError
theorem bIE : Base "IndexError" "IndexError.__init__" "IndexError.__new__" ieTail := .of PySem.F.excBase_IndexError kxs_IndexError PySem.F.store_IndexError
theorem bAE : Base "ArithmeticError" "ArithmeticError.__init__" "ArithmeticError.__new__" aeTail := .of PySem.F.excBase_ArithmeticError kxs_ArithmeticError PySem.F.store_ArithmeticError
theorem bTE : Base "TypeError" "TypeError.__init__" "TypeError.__new__" teTail := .of PySem.F.excBase_TypeError kxs_TypeError PySem.F.store_TypeError
theorem bRE : Base "RuntimeError" "RuntimeError.__init__" "RuntimeError.__new__" reTail := .of PySem.F.excBase_RuntimeError kxs_RuntimeError PySem.F.store_RuntimeError
theorem kxKE : KxsFacts "KeyError" "KeyError.__init__" := ⟨(by show builtinType _ = _; rw [builtinType_eq_fast] <;> kernel_rfl), (by first | kernel_rfl | rfl)⟩
theorem bKE : Base "KeyError" "KeyError.__init__" "LookupError.__new__" keTail where
  new := ⟨_, _, _, PySem.F.excBase_LookupError, by decide +kernel, by decide +kernel, by decide +kernel⟩
  ini := inKE
  kx := kxKE
  pass := fun self => by kernel_rfl
  ob := by decide +kernel
section
variable {prog : Program} {w : World} {M : Model} {A : Around} {E : Value → Shared → Prop} {h : Heap} {g : Array GenState} {d : Drawn} {t : Nat} {os : OsState} {C e u x : Addr} {bm : List Value} {B i newId : String}
theorem checkIn (I : InF i B) {oe : Obj} {vs : List Value} {Q : Unit → Shared → Prop} (hC : At h C bm newId) (he : h.get? e = some oe) (hcls : oe.cls = .ref C) (hq : Q () ⟨h, g, d, t, os⟩) : wpAny M A (checkBoundCall i ⟨.ref e :: vs, []⟩) Q E ⟨h, g, d, t, os⟩ := by
  obtain ⟨nm, q, N, bs, hdct, sn, sub, ab, col, dd, k0, k1, k2, k3, k5, hC⟩ := hC
  have ns := I.star
  simp only [checkBoundCall, I.kind, I.row]
  repeat (first | (with_reducible refine wpAny_loadPart_at he ?_; rw [hcls]) | with_reducible refine wpAny_loadPart_at hC ?_ | wp_step)
  refine wpAny_onRaise ?_
  have ok : ∀ (a b : String) (n : Nat), Bind.check ⟨.positional, "*", B, .self, [⟨"args", .varPos, false⟩]⟩ a b n (([] : List (Str × Value)).map (·.1)) = pure () := fun a b n => check_star_args _ _ _ _ _ _
  rw [ok]
  exact wpAny_pure hq
/-- super().__init__(..), called -/
theorem callIn (I : InF i B) {t0 : Addr} {vs : List Value} {Q : Value → Shared → Prop} (hC : At h C bm newId) (hu : h.get? u = some (kxs_mw i x)) (hx : h.get? x = some (excObj C t0 none .none)) (hz : vs.length ≤ sizeLine)
    (hq : ∀ h' t1, (∀ b o, b ≠ x → h.get? b = some o → h'.get? b = some o) → h'.get? x = some (excObj C t1 none .none) → Q .none ⟨h', g, d, t, os⟩) : wpAny (model prog w) A (call (.ref u) vs) Q E ⟨h, g, d, t, os⟩ := by
  refine wpAny_call (codeAny_of_tree ?_)
  show wpAny _ A.in1 (callAny (.ref u) ⟨vs, []⟩) _ _ _
  have m : (Value.type "method-wrapper" == Value.type "method" || Value.type "method-wrapper" == Value.type "builtin_function_or_method" || Value.type "method-wrapper" == Value.type "method-wrapper") = true := by decide
  simp only [callAny]
  refine wpAny_bind (wpAny_load hu ?_)
  simp only [kxs_mw, m, if_true]
  refine KFB.if_so (by decide) ?_
  refine wpAny_bind (checkIn I hC hx rfl ?_)
  refine wpAny_bind (wpAny_pure (wpAny_pure ?_))
  refine ⟨plainId_quiet I.plain _, codeAny_builtin I.ent ?_⟩
  exact exc_init_tree (cls := .ref C) (t0 := t0) (dv := none) (c2 := .none) (c3 := .none) (b4 := .bool false) hx hz fun h' k e' _ => hq h' _ k e'
end
end VY
namespace VZ
open PySem PySem.W PySem.Calls PyProof.Rows VB VY
/-- the text of an __init__ that says super().__init__(lit) and self.f = f -/
def nA (f : Str) (p1 p2 : Pos) : Arguments := { posonlyargs := [], args := [{ arg := "self", annotation := none, pos := p1 }, { arg := f, annotation := none, pos := p2 }], vararg := none, kwonlyargs := [], kw_defaults := [], kwarg := none, defaults := [] }
def nB (f lit : Str) (q1 q2 q3 q4 q5 q6 q7 q8 q9 qa : Pos) : List Stmt :=
  [.Expr (.Call (.Attribute (.Call (.Name "super" q1) [] [] q2) "__init__" q3) [.Constant (.str lit) 0 q4] [] q5) q6, .Assign [.Attribute (.Name "self" q7) f q8] (.Name f q9) qa]
def nS (f : Str) : Scope := { kind := .function, names := [(PySem.Str.ofString "self", .local), (f, .local), (PySem.Str.ofString "__class__", .free), (PySem.Str.ofString "super", .globalImplicit)], isGenerator := false, isCoroutine := false, more := [] }
/-- of one that says super().__init__() -/
def zA (p1 : Pos) : Arguments := { posonlyargs := [], args := [{ arg := "self", annotation := none, pos := p1 }], vararg := none, kwonlyargs := [], kw_defaults := [], kwarg := none, defaults := [] }
def zB (q1 q2 q3 q5 q6 : Pos) : List Stmt := [.Expr (.Call (.Attribute (.Call (.Name "super" q1) [] [] q2) "__init__" q3) [] [] q5) q6]
def zS : Scope := { kind := .function, names := [(PySem.Str.ofString "self", .local), (PySem.Str.ofString "__class__", .free), (PySem.Str.ofString "super", .globalImplicit)], isGenerator := false, isCoroutine := false, more := [] }
/-- what the written part says of the class at C and of its __init__ at fI -/
structure TxtC (prog : Program) (K : Frag) (C fI : Addr) (B i newId : String) (bmB : List Value) : Prop where
  cls : ∃ nm q N bs bm sn sub ab col dd k0 k1 k2 k3 k5, K.lookup C = some (excClassObj nm q C N bs bm true sn sub ab col dd k0 k1 k2 k3 k5 newId) ∧ excTail bmB bm = true
  iC : findIn K (.ref C) "__init__" = some (some (.ref fI))
  tC : typeIn K (.ref fI) = some (.type "function")
  kC : keepIn K (.ref C) = true
  exC : subIn K (.ref C) (.type "BaseException") = some true
  tyC : typeIn K (.ref C) = some (.type "type")
  beC : subIn K (.ref C) (.type B) = some true
  up : ks_superIn K C C "__init__" = some (some (.builtin i))
  me : mroIn K C (.ref C) = some true
  tp : nsIn K cStatics "thirdparty.any" = some none
  sup : nsIn K mainGlobals "super" = some none
  top : (prog.main.scope.names.lookup ("super" : Str)).isSome = false
structure TxtF (prog : Program) (K : Frag) (mg : Str → Option Value) (C fI : Addr) (qual f lit : Str) (B i newId : String) (bmB : List Value) : Prop extends TxtC prog K C fI B i newId bmB where
  sa : findIn K (.ref C) "__setattr__" = some (some (.builtin "object.__setattr__"))
  noN : findIn K (.ref C) f = some none
  bd : ∀ (B : List Stmt) (p1 p2 : Pos) (doc pm : Value) (an : Option Addr) (cdv ct : Value) (cc : Addr) (a v : Value), bindArgs (ksFn "__init__" qual (nA f p1 p2) B (nS f) .none .none doc pm an cdv ct cc) ⟨[a, v], []⟩ = pure [(("self" : Str), a), (f, v)]
  bk : ∀ (B : List Stmt) (p1 p2 : Pos) (doc pm : Value) (an : Option Addr) (cdv ct : Value) (cc : Addr) (a v : Value), bindArgs (ksFn "__init__" qual (nA f p1 p2) B (nS f) .none .none doc pm an cdv ct cc) ⟨[a], [(f, v)]⟩ = pure [(("self" : Str), a), (f, v)]
  lk : (nS f).names.lookup ("self" : Str) = some .local ∧ (nS f).names.lookup f = some .local ∧ (nS f).names.lookup ("__class__" : Str) = some .free ∧ (nS f).names.lookup ("super" : Str) = some .globalImplicit
  sf : (("self" : Str) == f) = false
  db : (f == ("__debug__" : Str)) = false
  fn : ∃ (oc : Value) (od : Option Addr) (doc pm : Value) (an : Option Addr) (cda cc : Addr) (ct : Value) (osl : Array (Option Value)) (p1 p2 q1 q2 q3 q4 q5 q6 q7 q8 q9 qa : Pos),
    K.lookup fI = some ⟨oc, od, .func (ksFn "__init__" qual (nA f p1 p2) (nB f lit q1 q2 q3 q4 q5 q6 q7 q8 q9 qa) (nS f) .none .none doc pm an (.ref cda) ct cc), osl⟩ ∧ codeIn K (.ref cda) qual = true ∧ (q3.endLine == q5.line) = true ∧
    (∃ cl cld csl, K.lookup cc = some ⟨cl, cld, .cell (some (.ref C)), csl⟩) ∧
    (∃ ccl cdd vs ccs file tf, K.lookup cda = some ⟨ccl, cdd, .fields vs, ccs⟩ ∧ vs[2]? = some (.str file tf) ∧ ((prog.main.file : Str) == file) = true)
structure Txt0 (prog : Program) (K : Frag) (mg : Str → Option Value) (C fI : Addr) (qual : Str) (B i newId : String) (bmB : List Value) : Prop extends TxtC prog K C fI B i newId bmB where
  bd : ∀ (B : List Stmt) (p1 : Pos) (doc pm : Value) (an : Option Addr) (cdv ct : Value) (cc : Addr) (a : Value), bindArgs (ksFn "__init__" qual (zA p1) B zS .none .none doc pm an cdv ct cc) ⟨[a], []⟩ = pure [(("self" : Str), a)]
  fn : ∃ (oc : Value) (od : Option Addr) (doc pm : Value) (an : Option Addr) (cda cc : Addr) (ct : Value) (osl : Array (Option Value)) (p1 q1 q2 q3 q5 q6 : Pos),
    K.lookup fI = some ⟨oc, od, .func (ksFn "__init__" qual (zA p1) (zB q1 q2 q3 q5 q6) zS .none .none doc pm an (.ref cda) ct cc), osl⟩ ∧ codeIn K (.ref cda) qual = true ∧ (q3.endLine == q5.line) = true ∧
    (∃ cl cld csl, K.lookup cc = some ⟨cl, cld, .cell (some (.ref C)), csl⟩) ∧
    (∃ ccl cdd vs ccs file tf, K.lookup cda = some ⟨ccl, cdd, .fields vs, ccs⟩ ∧ vs[2]? = some (.str file tf) ∧ ((prog.main.file : Str) == file) = true)
theorem ev_call {env : Env} {o : Expr} {name lit : Str} {q3 q4 q5 : Pos} (hpos : (q3.endLine == q5.line) = true) (hi : importBound o env = pure (some false)) :
    eval (.Call (.Attribute o name q3) [.Constant (.str lit) 0 q4] [] q5) env = (do
      let ov ← attributeBase o name env (eval o env)
      standAt q3.atName
      let (f, first) ← holding [ov] (getMethod ov name (do return (← importBound o env).getD true))
      callWith q5 f first (backTo q5 (starEach [.Constant (.str lit) 0 q4] env)) []) := by
  rw [arm_eval_Call]
  unfold methodCall methodCallPos
  have h2 : ∀ b : Bool, (!b || q3.endLine == q5.line) = true := fun b => by rw [hpos, Bool.or_true]
  simp only [h2, if_true]
  rfl
theorem ev_call0 {env : Env} {o : Expr} {name : Str} {q3 q5 : Pos} (hpos : (q3.endLine == q5.line) = true) (hi : importBound o env = pure (some false)) :
    eval (.Call (.Attribute o name q3) [] [] q5) env = (do
      let ov ← attributeBase o name env (eval o env)
      standAt q3.atName
      let (f, first) ← holding [ov] (getMethod ov name (do return (← importBound o env).getD true))
      callWith q5 f first (backTo q5 (starEach [] env)) []) := by
  rw [arm_eval_Call]
  unfold methodCall methodCallPos
  have h2 : ∀ b : Bool, (!b || q3.endLine == q5.line) = true := fun b => by rw [hpos, Bool.or_true]
  simp only [h2, if_true]
  rfl
section
open Builtin Builtin.ObjectAttr
variable {prog : Program} {w : World} {A : Around} {R : Result → Shared → Prop} {hp : Heap} {g : Array GenState} {d : Drawn} {t : Nat} {os : OsState}
/-- self.f = v: the dict is made -/
theorem osaNew {K : Frag} {name : Str} {tk : Tok} {v : Value} {x C : Addr} {fv : Array Value} {cd : ClassData} (X : K.In hp) (hx : hp.get? x = some { cls := .ref C, data := .fields fv }) (hcd : clsIn K C = some cd)
    (pass : ∀ self, refuseLoop self "__setattr__" cd.mro = pure ()) (ob : cd.mro.contains (.type "object") = true) (hh : cd.hasDict = true) (ha : findIn K (.ref C) name = some none)
    (hq : ∀ h' tk' dx, (∀ b o, b ≠ x → hp.get? b = some o → h'.get? b = some o) → hp.objs.size ≤ dx → dx ≠ x → h'.get? x = some { cls := .ref C, dict := some dx, data := .fields fv } →
      h'.Ns1 dx (fun y => if y = name then some v else none) → R (.ok (.ret .none)) ⟨h', g, d, tk', os⟩) :
    codeAny (model prog w) A (.call (.builtin "object.__setattr__") ⟨[.ref x, .str name tk, v], []⟩) R ⟨hp, g, d, t, os⟩ := by
  have I : InstAt hp x { cls := .ref C, data := .fields fv } C none := ⟨hx, rfl, rfl, trivial⟩
  have S := F.store_object
  have xs : x ≠ hp.objs.size := Nat.ne_of_lt (Heap.lt_size hx)
  have nonE : ¬ (cd.mro.isEmpty = true) := fun z => by
    rw [List.isEmpty_iff.mp z] at ob
    cases ob
  have isObj : Looks (model prog w) hp (isInstance (.ref x) (.type "object")) true := I.type.andThen (looks_mroIn X (by unfold mroIn; rw [hcd, Option.bind_some, if_neg nonE, ob]))
  refine codeAny_call_builtin S.slot.plain S.entry (@check_slot (model prog w) _ _ ⟨hp, g, d, t, os⟩ "object.__setattr__" "object" "__setattr__" (.ref x) [.str name tk, v] [] _ S.kind S.split isObj (S.args (.ref x) (.str name tk) v) ?_)
  have l1 : Looks (model prog w) hp (mroOf (.ref C)) cd.mro := (looks_clsIn X hcd).andThen .now
  have l2 : Looks (model prog w) hp (storeTaker? none) none := .now
  have l3 : Looks (model prog w) hp (classData C) cd := looks_clsIn X hcd
  rw [osa_eq, refuse_eq]
  refine wpAny_bind (wpAny_bind (I.type.at (wpAny_bind (l1.at ?_))))
  rw [pass]
  refine wpAny_pure (wpAny_bind (I.type.at (wpAny_bind ((looks_findIn X ha).at (wpAny_bind (l2.at ?_))))))
  show wpAny _ _ (storeInOwnDict (.ref x) (.ref C) (.str name tk) name v false) _ _ _
  obtain ⟨nm, bs, mro, ns, qn, hd, sn, sb, ab, col, del⟩ := cd
  dsimp only at hh
  subst hh
  unfold storeInOwnDict ownDictForStores
  repeat (first | with_reducible refine HandSPX.store_in_new ?_ ?_ | with_reducible refine wpAny_loadPart_at hx ?_ | with_reducible refine l3.at ?_ | wp_step)
  · exact ⟨_, #[], _, (Heap.get?_update_ne _ _ _ _ xs.symm).trans (Heap.get?_push_at rfl rfl), rfl, fun e he => absurd he (by simp), fun _ => rfl⟩
  · intro h' tk' hn' hs
    have x1 : (hp.push { cls := .type "dict", data := .dict #[] }).get? x = some { cls := .ref C, data := .fields fv } := Heap.get?_push_of_some _ hx
    refine hq h' tk' hp.objs.size (fun b o hb ho => ?_) (Nat.le_refl _) xs.symm ?_ hn'
    · exact (hs.2 b (Nat.ne_of_lt (Heap.lt_size ho))).trans ((Heap.get?_update_ne _ _ _ _ hb).trans (Heap.get?_push_of_some _ ho))
    · exact (hs.2 x xs).trans (Heap.get?_update_self _ x1 rfl)
end
section
variable {prog : Program} {w : World} {A : Around} {R : Result → Shared → Prop} {s : Shared} {K : Frag} {mg mb : Str → Option Value} {C fI : Addr} {qual f lit : Str} {hp : Heap} {B i newId : String} {bmB : List Value}
theorem init_run (T : TxtF prog K mg C fI qual f lit B i newId bmB) (BF : Base B i newId bmB) {x t0 : Addr} {v : Value} {ar : Args} (bd : ∀ (B' : List Stmt) (p1 p2 : Pos) (doc pm : Value) (an : Option Addr) (cdv ct : Value) (cc : Addr), bindArgs (ksFn "__init__" qual (nA f p1 p2) B' (nS f) .none .none doc pm an cdv ct cc) ar = pure [(("self" : Str), .ref x), (f, v)]) (X₀ : K.In hp) (hg : hp.Ns mainGlobals mg) (hb : hp.Ns builtinsNs mb) (hbb : ∀ y : Str, y ≠ "__name__" → mb y = bootBuiltins y) (hlim : hp.NoLimit)
    (kp : ∀ b o, hp.get? b = some o → s.heap.get? b = some o) (hsz : hp.objs.size ≤ s.heap.objs.size) (hx : s.heap.get? x = some (excObj C t0 none .none)) (hpx : hp.get? x = none) (hroom : A.depth < recursionLimit)
    (hq : ∀ h' tk dx t1, (∀ b o, hp.get? b = some o → h'.get? b = some o) → h'.get? x = some (excObj C t1 (some dx) .none) → hp.objs.size ≤ dx → dx ≠ x →
      h'.Ns1 dx (fun y => if y = f then some v else none) → R (.ok (.ret .none)) { s with heap := h', toks := tk }) :
    codeAny (model prog w) A (.call (.ref fI) ar) R s := by
  obtain ⟨oc, od, doc, pm, an, cda, cc, ct, osl, p1, p2, q1, q2, q3, q4, q5, q6, q7, q8, q9, qa, ho, hcd, hpos, ⟨cl, cld, csl, hcell⟩, ⟨ccl, cdd, vs, ccs, file, tf, hcode, hvs, hfile⟩⟩ := T.fn
  obtain ⟨nm, q, N, bs, bm, sn, sub, ab, col, dd, k0, k1, k2, k3, k5, hC, hbm⟩ := T.cls
  obtain ⟨lk1, lk2, lk3, lk4⟩ := T.lk
  have Xs : K.In s.heap := X₀.keeps kp
  have hcl : clsIn K C = some { name := nm, bases := bs, mro := .ref C :: bm, ns := N, qualname := q, hasDict := true, slotNames := sn, subclasses := sub, abstract := ab, collection := col, hasDel := false } := by unfold clsIn; rw [hC] <;> rfl
  refine ks_codeAny_call_defAt (fd := ksFn "__init__" qual (nA f p1 p2) (nB f lit q1 q2 q3 q4 q5 q6 q7 q8 q9 qa) (nS f) .none .none doc pm an (.ref cda) ct cc) (binds := [(("self" : Str), .ref x), (f, v)]) hroom (Xs _ _ ho) rfl (hlim.keeps kp) (codeRec_of Xs hcd) rfl
    (BindsTo.of_eq (bd _ _ _ _ _ _ _ _ _)) ?_ ?_ (fun h₁ hns k₁ => ?_) rfl rfl rfl
  · intro y hy
    rcases List.mem_cons.mp hy with rfl | hy
    · exact fun z => NameKind.noConfusion z
    rcases List.mem_cons.mp hy with rfl | hy
    · exact fun z => NameKind.noConfusion z
    rcases List.mem_cons.mp hy with rfl | hy
    · exact fun z => NameKind.noConfusion z
    rcases List.mem_cons.mp hy with rfl | hy
    · exact fun z => NameKind.noConfusion z
    cases hy
  · intro y hy
    rcases List.mem_cons.mp hy with rfl | hy
    · exact lk1
    rcases List.mem_cons.mp hy with rfl | hy
    · exact lk2
    cases hy
  have m1 : ([(("self" : Str), Value.ref x), (f, v)].reverse.lookup ("self" : Str)) = some (.ref x) := by
    show List.lookup ("self" : Str) [(f, v), (("self" : Str), Value.ref x)] = _
    simp [List.lookup, T.sf]
  have m2 : ([(("self" : Str), Value.ref x), (f, v)].reverse.lookup f) = some v := by
    show List.lookup f [(f, v), (("self" : Str), Value.ref x)] = _
    simp [List.lookup]
  have kh : ∀ b o, hp.get? b = some o → h₁.get? b = some o := fun b o e => k₁ b o (kp b o e)
  have F₁ : Fr hp s.heap.objs.size h₁ (fun y => [(("self" : Str), Value.ref x), (f, v)].reverse.lookup y) := ⟨hns, kh, hsz⟩
  have N₁ : News hp s.heap.objs.size h₁ [(x, excObj C t0 none .none)] := fun p hp' => by
    obtain rfl := List.mem_singleton.mp hp'
    exact ⟨k₁ _ _ hx, Nat.ne_of_lt (Heap.lt_size hx), hpx⟩
  refine ks_wpAt_execs_cons (ks_wpAt_Expr_any (ks_wpAt_MethodCall ?_ (ev_call hpos rfl)))
  have kc : ∀ {b : Addr} {o : Obj}, K.lookup b = some o → h₁.get? b = some o := fun e => kh _ _ (X₀ _ _ e)
  have X₁ : K.In h₁ := X₀.keeps kh
  have hx₁ := k₁ _ _ hx
  refine ks_wpAt_super_base (env := ksEnv qual (nS f) s.heap.objs.size fI (.ref cda) cc) lk4 lk3 (by decide) rfl (kc ho) rfl rfl rfl (kc hcode) rfl hvs hfile T.top ?_
  refine ks_loadName_global rfl lk4 (loadGlobal_builtin (hg.keeps kh) (mg_none_of X₀ hg T.sup) (hb.keeps kh) ((hbb _ (by decide +kernel)).trans (show bootBuiltins "super" = some (.type "super") by decide +kernel)) ⟨rfl, ?_⟩)
  refine wpAny_loadName_free rfl lk3 rfl ⟨_, kc hcell, rfl⟩ ?_
  refine wpAny_loadName_local rfl lk1 hns m1 ?_
  refine ks_wpAny_isType_cls (kc hC) rfl ⟨rfl, ?_⟩
  refine ks_wpAny_call_super (kc hC) rfl hx₁ rfl (fun c z => by cases z) (looks_mroIn X₁ T.me) (fun h₂ e₂ k₂ => ?_)
  obtain ⟨F₂, N₂, l₂⟩ := ks_newsPush (s := ⟨h₁, s.gens, s.drawn, s.toks + 2, s.os⟩) F₁ N₁ rfl e₂ k₂
  have kh₂ : ∀ b o, hp.get? b = some o → h₂.get? b = some o := fun b o e => k₂ b o (kh b o e)
  have X₂ : K.In h₂ := X₀.keeps kh₂
  have hx₂ := k₂ _ _ hx₁
  refine kxs_method (s := ⟨h₂, s.gens, s.drawn, s.toks + 2, s.os⟩) BF.kx F₂ X₀ N₂ List.mem_cons_self (InstAt.of_exc0 N₂ (List.mem_cons_of_mem _ List.mem_cons_self)) T.tp T.up T.beC (by decide) (fun u h₃ F₃ N₃ l₃ => ?_)
  refine kxs_callWith1 (s := ⟨h₃, s.gens, s.drawn, s.toks + 2 + 1, s.os⟩) (i := i) N₃ List.mem_cons_self ?_
  refine spliced_more (wpAny_Constant_str (spliced_none ⟨kxs_at N₃ List.mem_cons_self, ?_⟩))
  have nux : u ≠ x := fun z => by
    have := l₃ _ (List.mem_cons_of_mem _ List.mem_cons_self)
    rw [z] at this
    exact absurd this (Nat.lt_irrefl _)
  have nsx : h₁.objs.size ≠ x := fun z => by
    have := l₂ _ List.mem_cons_self
    rw [← z] at this
    exact absurd this (Nat.lt_irrefl _)
  have u3 := (N₃ _ List.mem_cons_self).1
  have x3 : h₃.get? x = some (excObj C t0 none .none) := (N₃ (x, excObj C t0 none .none) (by simp)).1
  have nLx : s.heap.objs.size ≠ x := Nat.ne_of_gt (Heap.lt_size hx)
  refine callIn BF.ini (bm := bm) (newId := newId) ⟨_, _, _, _, _, _, _, _, _, _, _, _, _, _, _, F₃.keep _ _ (X₀ _ _ hC)⟩ u3 x3 (by show 1 ≤ sizeLine; rw [sizeLine_eq]; omega) (fun h₄ t₄ k₄ hx₄ => ?_)
  have kh₄ : ∀ b o, hp.get? b = some o → h₄.get? b = some o := fun b o e => k₄ b o (fun z => by rw [z, hpx] at e; cases e) (F₃.keep b o e)
  have X₄ : K.In h₄ := X₀.keeps kh₄
  have n₄ : h₄.Ns s.heap.objs.size (fun y => [(("self" : Str), Value.ref x), (f, v)].reverse.lookup y) := by
    obtain ⟨oL, es, ep, hL, r⟩ := F₃.ns
    exact ⟨oL, es, ep, k₄ _ _ nLx hL, r⟩
  have z₄ : s.heap.objs.size < h₄.objs.size := n₄.lt
  refine ks_wpAt_execs_cons (ks_wpAt_Assign_Attr ?_)
  refine wpAt_of_wpAny (wpAny_Name ?_ T.db)
  refine wpAny_loadName_local rfl lk2 n₄ m2 ?_
  refine wpAny_Name ?_ (by decide)
  refine wpAny_loadName_local rfl lk1 n₄ m1 ?_
  refine set_plain X₄ (ox := excObj C t₄ none .none) (od := none) ⟨hx₄, rfl, rfl, trivial⟩ T.sa ?_
  refine osaNew X₄ hx₄ hcl (fun self => (refuseLoop_ref self _ C bm).trans (excTail_pass self (BF.pass self) bm hbm)) (show (Value.ref C :: bm).contains (.type "object") = true by rw [List.contains_cons, excTail_contains "object" _ hbm, BF.ob, Bool.or_true]) rfl T.noN (fun h₅ tk₅ dx k₅ dn dne hx₅ hn₅ => ?_)
  refine wpAt_of_wpAny (wpAny_execs_nil (hq h₅ tk₅ dx t₄ (fun b o e => k₅ b o (fun z => ?_) (kh₄ b o e)) hx₅ (Nat.le_trans hsz (Nat.le_trans (Nat.le_of_lt z₄) dn)) dne hn₅))
  rw [z, hpx] at e
  cases e
end
end VZ
namespace VZ
open PySem PySem.W PySem.Calls PyProof.Rows VB VY
section
variable {prog : Program} {w : World} {A : Around} {R : Result → Shared → Prop} {s : Shared} {K : Frag} {mg mb : Str → Option Value} {C fI : Addr} {qual f lit : Str} {hp : Heap} {B i newId : String} {bmB : List Value}
theorem init_run0 (T : Txt0 prog K mg C fI qual B i newId bmB) (BF : Base B i newId bmB) {x t0 : Addr} (X₀ : K.In hp) (hg : hp.Ns mainGlobals mg) (hb : hp.Ns builtinsNs mb) (hbb : ∀ y : Str, y ≠ "__name__" → mb y = bootBuiltins y) (hlim : hp.NoLimit)
    (kp : ∀ b o, hp.get? b = some o → s.heap.get? b = some o) (hsz : hp.objs.size ≤ s.heap.objs.size) (hx : s.heap.get? x = some (excObj C t0 none .none)) (hpx : hp.get? x = none) (hroom : A.depth < recursionLimit)
    (hq : ∀ h' tk t1, (∀ b o, hp.get? b = some o → h'.get? b = some o) → h'.get? x = some (excObj C t1 none .none) → R (.ok (.ret .none)) { s with heap := h', toks := tk }) :
    codeAny (model prog w) A (.call (.ref fI) ⟨[.ref x], []⟩) R s := by
  obtain ⟨oc, od, doc, pm, an, cda, cc, ct, osl, p1, q1, q2, q3, q5, q6, ho, hcd, hpos, ⟨cl, cld, csl, hcell⟩, ⟨ccl, cdd, vs, ccs, file, tf, hcode, hvs, hfile⟩⟩ := T.fn
  obtain ⟨nm, q, N, bs, bm, sn, sub, ab, col, dd, k0, k1, k2, k3, k5, hC, hbm⟩ := T.cls
  have lk1 : zS.names.lookup ("self" : Str) = some .local := by decide +kernel
  have lk3 : zS.names.lookup ("__class__" : Str) = some .free := by decide +kernel
  have lk4 : zS.names.lookup ("super" : Str) = some .globalImplicit := by decide +kernel
  have Xs : K.In s.heap := X₀.keeps kp
  have hcl : clsIn K C = some { name := nm, bases := bs, mro := .ref C :: bm, ns := N, qualname := q, hasDict := true, slotNames := sn, subclasses := sub, abstract := ab, collection := col, hasDel := false } := by unfold clsIn; rw [hC] <;> rfl
  refine ks_codeAny_call_defAt (fd := ksFn "__init__" qual (zA p1) (zB q1 q2 q3 q5 q6) zS .none .none doc pm an (.ref cda) ct cc) (binds := [(("self" : Str), .ref x)]) hroom (Xs _ _ ho) rfl (hlim.keeps kp) (codeRec_of Xs hcd) rfl
    (BindsTo.of_eq (T.bd _ _ _ _ _ _ _ _ _)) ?_ ?_ (fun h₁ hns k₁ => ?_) rfl rfl rfl
  · intro y hy
    rcases List.mem_cons.mp hy with rfl | hy
    · exact fun z => NameKind.noConfusion z
    rcases List.mem_cons.mp hy with rfl | hy
    · exact fun z => NameKind.noConfusion z
    rcases List.mem_cons.mp hy with rfl | hy
    · exact fun z => NameKind.noConfusion z
    cases hy
  · intro y hy
    rcases List.mem_cons.mp hy with rfl | hy
    · exact lk1
    cases hy
  have m1 : ([(("self" : Str), Value.ref x)].reverse.lookup ("self" : Str)) = some (.ref x) := by
    show List.lookup ("self" : Str) [(("self" : Str), Value.ref x)] = _
    simp [List.lookup]
  have kh : ∀ b o, hp.get? b = some o → h₁.get? b = some o := fun b o e => k₁ b o (kp b o e)
  have F₁ : Fr hp s.heap.objs.size h₁ (fun y => [(("self" : Str), Value.ref x)].reverse.lookup y) := ⟨hns, kh, hsz⟩
  have N₁ : News hp s.heap.objs.size h₁ [(x, excObj C t0 none .none)] := fun p hp' => by
    obtain rfl := List.mem_singleton.mp hp'
    exact ⟨k₁ _ _ hx, Nat.ne_of_lt (Heap.lt_size hx), hpx⟩
  refine ks_wpAt_execs_cons (ks_wpAt_Expr_any (ks_wpAt_MethodCall ?_ (ev_call0 hpos rfl)))
  have kc : ∀ {b : Addr} {o : Obj}, K.lookup b = some o → h₁.get? b = some o := fun e => kh _ _ (X₀ _ _ e)
  have X₁ : K.In h₁ := X₀.keeps kh
  have hx₁ := k₁ _ _ hx
  refine ks_wpAt_super_base (env := ksEnv qual (zS) s.heap.objs.size fI (.ref cda) cc) lk4 lk3 (by decide) rfl (kc ho) rfl rfl rfl (kc hcode) rfl hvs hfile T.top ?_
  refine ks_loadName_global rfl lk4 (loadGlobal_builtin (hg.keeps kh) (mg_none_of X₀ hg T.sup) (hb.keeps kh) ((hbb _ (by decide +kernel)).trans (show bootBuiltins "super" = some (.type "super") by decide +kernel)) ⟨rfl, ?_⟩)
  refine wpAny_loadName_free rfl lk3 rfl ⟨_, kc hcell, rfl⟩ ?_
  refine wpAny_loadName_local rfl lk1 hns m1 ?_
  refine ks_wpAny_isType_cls (kc hC) rfl ⟨rfl, ?_⟩
  refine ks_wpAny_call_super (kc hC) rfl hx₁ rfl (fun c z => by cases z) (looks_mroIn X₁ T.me) (fun h₂ e₂ k₂ => ?_)
  obtain ⟨F₂, N₂, l₂⟩ := ks_newsPush (s := ⟨h₁, s.gens, s.drawn, s.toks + 1, s.os⟩) F₁ N₁ rfl e₂ k₂
  have kh₂ : ∀ b o, hp.get? b = some o → h₂.get? b = some o := fun b o e => k₂ b o (kh b o e)
  have X₂ : K.In h₂ := X₀.keeps kh₂
  have hx₂ := k₂ _ _ hx₁
  refine kxs_method (s := ⟨h₂, s.gens, s.drawn, s.toks + 1, s.os⟩) BF.kx F₂ X₀ N₂ List.mem_cons_self (InstAt.of_exc0 N₂ (List.mem_cons_of_mem _ List.mem_cons_self)) T.tp T.up T.beC (by decide) (fun u h₃ F₃ N₃ l₃ => ?_)
  refine kxs_callWith0 (s := ⟨h₃, s.gens, s.drawn, s.toks + 1 + 1, s.os⟩) (i := i) N₃ List.mem_cons_self ?_
  have nux : u ≠ x := fun z => by
    have := l₃ _ (List.mem_cons_of_mem _ List.mem_cons_self)
    rw [z] at this
    exact absurd this (Nat.lt_irrefl _)
  have nsx : h₁.objs.size ≠ x := fun z => by
    have := l₂ _ List.mem_cons_self
    rw [← z] at this
    exact absurd this (Nat.lt_irrefl _)
  have u3 := (N₃ _ List.mem_cons_self).1
  have x3 : h₃.get? x = some (excObj C t0 none .none) := (N₃ (x, excObj C t0 none .none) (by simp)).1
  have nLx : s.heap.objs.size ≠ x := Nat.ne_of_gt (Heap.lt_size hx)
  refine callIn BF.ini (bm := bm) (newId := newId) ⟨_, _, _, _, _, _, _, _, _, _, _, _, _, _, _, F₃.keep _ _ (X₀ _ _ hC)⟩ u3 x3 (by show 0 ≤ sizeLine; rw [sizeLine_eq]; omega) (fun h₄ t₄ k₄ hx₄ => ?_)
  have kh₄ : ∀ b o, hp.get? b = some o → h₄.get? b = some o := fun b o e => k₄ b o (fun z => by rw [z, hpx] at e; cases e) (F₃.keep b o e)
  exact wpAt_of_wpAny (wpAny_execs_nil (hq h₄ _ t₄ kh₄ hx₄))
/-- what C(v) leaves: the exception at e, its dict at d -/
structure Made (h h' : Heap) (e C d : Addr) (f : Str) (v : Value) : Prop where
  keep : ∀ b o, h.get? b = some o → h'.get? b = some o
  new : h.objs.size ≤ e
  obj : ∃ t1 : Addr, h'.get? e = some (excObj C t1 (some d) .none)
  big : h.objs.size ≤ d
  dne : d ≠ e
  ns : h'.Ns1 d (fun y => if y = f then some v else none)
theorem over_of {bm : List Value} {B' : String} (O : Over bmB B') (h : excTail bmB bm = true) : Over bm B' := ⟨(excTail_contains _ _ h).trans O.b, (excTail_contains _ _ h).trans O.a, (excTail_contains _ _ h).trans O.n⟩
theorem push_two {h : Heap} {o1 o2 : Obj} : (∀ b o, h.get? b = some o → ((h.push o1).push o2).get? b = some o) ∧ h.get? (h.objs.size + 1) = none := by
  refine ⟨fun b o e => Heap.get?_push_of_some _ (Heap.get?_push_of_some _ e), ?_⟩
  cases z : h.get? (h.objs.size + 1) with
  | none => rfl
  | some o => exact absurd (Nat.lt_of_succ_lt (Heap.lt_size z)) (Nat.lt_irrefl _)
theorem made (T : TxtF prog K mg C fI qual f lit B i newId bmB) (BF : Base B i newId bmB) {v : Value} {vs : List Value} {kw : List (Str × Value)} (hz : vs.length ≤ sizeLine)
    (bd : ∀ (a : Value) (B' : List Stmt) (p1 p2 : Pos) (doc pm : Value) (an : Option Addr) (cdv ct : Value) (cc : Addr), bindArgs (ksFn "__init__" qual (nA f p1 p2) B' (nS f) .none .none doc pm an cdv ct cc) ⟨a :: vs, kw⟩ = pure [(("self" : Str), a), (f, v)])
    (X₀ : K.In s.heap) (hg : s.heap.Ns mainGlobals mg) (hb : s.heap.Ns builtinsNs mb) (hbb : ∀ y : Str, y ≠ "__name__" → mb y = bootBuiltins y) (hlim : s.heap.NoLimit)
    (hroom : A.depth + 1 < recursionLimit) (hq : ∀ h' tk e d, Made s.heap h' e C d f v → R (.ok (.ret (.ref e))) { s with heap := h', toks := tk }) : codeAny (model prog w) A (.call (.ref C) ⟨vs, kw⟩) R s := by
  obtain ⟨nm, q, N, bs, bm, sn, sub, ab, col, dd, k0, k1, k2, k3, k5, hC, hbm⟩ := T.cls
  obtain ⟨B', i', bm', F, O⟩ := BF.new
  obtain ⟨hp, g, dr, tk, os⟩ := s
  obtain ⟨kk, hpe⟩ := push_two (h := hp) (o1 := excTup vs) (o2 := excObj C hp.objs.size none .none)
  have he : ((hp.push (excTup vs)).push (excObj C hp.objs.size none .none)).get? (hp.objs.size + 1) = some (excObj C hp.objs.size none .none) := by heap_get
  refine runCall F (over_of O hbm) (bm := bm) ⟨_, _, _, _, _, _, _, _, _, _, _, _, _, _, _, X₀ _ _ hC⟩ (looks_findIn X₀ T.iC) (fun self => bind_fn X₀ self T.tC) hz ?_
  refine init_run (s := ⟨(hp.push (excTup vs)).push (excObj C hp.objs.size none .none), g, dr, tk, os⟩) T BF (bd (.ref (hp.objs.size + 1))) X₀ hg hb hbb hlim kk (by show hp.objs.size ≤ _; rw [Heap.size_push, Heap.size_push]; omega) he hpe hroom (fun h' tk' dx t1 k' hx db dn hn => ?_)
  exact ⟨rfl, hq h' tk' (hp.objs.size + 1) dx ⟨k', Nat.le_succ _, ⟨t1, hx⟩, db, dn, hn⟩⟩
theorem made0 (T : Txt0 prog K mg C fI qual B i newId bmB) (BF : Base B i newId bmB)
    (X₀ : K.In s.heap) (hg : s.heap.Ns mainGlobals mg) (hb : s.heap.Ns builtinsNs mb) (hbb : ∀ y : Str, y ≠ "__name__" → mb y = bootBuiltins y) (hlim : s.heap.NoLimit)
    (hroom : A.depth + 1 < recursionLimit) (hq : ∀ h' tk e t1, (∀ b o, s.heap.get? b = some o → h'.get? b = some o) → s.heap.objs.size ≤ e → h'.get? e = some (excObj C t1 none .none) → R (.ok (.ret (.ref e))) { s with heap := h', toks := tk }) : codeAny (model prog w) A (.call (.ref C) ⟨[], []⟩) R s := by
  obtain ⟨nm, q, N, bs, bm, sn, sub, ab, col, dd, k0, k1, k2, k3, k5, hC, hbm⟩ := T.cls
  obtain ⟨B', i', bm', F, O⟩ := BF.new
  obtain ⟨hp, g, dr, tk, os⟩ := s
  obtain ⟨kk, hpe⟩ := push_two (h := hp) (o1 := excTup []) (o2 := excObj C hp.objs.size none .none)
  have he : ((hp.push (excTup [])).push (excObj C hp.objs.size none .none)).get? (hp.objs.size + 1) = some (excObj C hp.objs.size none .none) := by heap_get
  refine runCall F (over_of O hbm) (bm := bm) ⟨_, _, _, _, _, _, _, _, _, _, _, _, _, _, _, X₀ _ _ hC⟩ (looks_findIn X₀ T.iC) (fun self => bind_fn X₀ self T.tC) (by show 0 ≤ sizeLine; rw [sizeLine_eq]; omega) ?_
  refine init_run0 (s := ⟨(hp.push (excTup [])).push (excObj C hp.objs.size none .none), g, dr, tk, os⟩) T BF X₀ hg hb hbb hlim kk (by show hp.objs.size ≤ _; rw [Heap.size_push, Heap.size_push]; omega) he hpe hroom (fun h' tk' t1 k' hx => ?_)
  exact ⟨rfl, hq h' tk' (hp.objs.size + 1) t1 k' (Nat.le_succ _) hx⟩
end
end VZ
namespace VV
open PySem PySem.Spec PySem.Calls PyProof.Rows PySem.W
section
variable {prog : Program} {w : World} {A : Around} {E : Value → Shared → Prop} {s : Shared} {K : Frag} {x D : Addr} {ox : Obj} {od : Option Obj}
theorem found (T : L2.ExcC K D) : findObj K D od "__class__" = some (.bind (.builtin "getset_descriptor.__get__") (.builtin "object.__class__")) := by
  obtain ⟨cd, hc, _⟩ := any_some T.hd
  unfold findObj
  rw [hc, Option.bind_some, T.ha, Option.bind_some]
  simp [T.hn, T.ht]
theorem cls_exc {Q : Option Value → Shared → Prop} (T : L2.ExcC K D) (X : K.In s.heap) (I : InstAt s.heap x ox D od) (h : Q (some (.ref D)) { s with toks := s.toks + 1 }) :
    wpAny (model prog w) A (getAttr? (.ref x) "__class__") Q E s := by
  obtain ⟨hp, gs, dr, tk, os⟩ := s
  have ty := I.type (M := model prog w)
  have ga := looks_findIn (M := model prog w) X T.hg
  have gt := looks_findIn (M := model prog w) X T.hk
  have fd := looks_find (M := model prog w) X I (found T)
  have n1 : (Value.builtin "BaseException.__getattribute__" == Value.builtin "object.__getattribute__") = false := by decide +kernel
  have bd := PySem.F.excAttr_ValueError.ga.bind (.ref x)
  unfold getAttr? getAttrBy? getAttrBy
  repeat (first | (with_reducible refine ty.at ?_) | (with_reducible refine ga.at ?_) | wp_step)
  refine gt.at ?_
  unfold callGetattribute boundAndCalled
  repeat (first | (simp only [bd, Bool.false_and, Bool.false_eq_true, if_false]) | wp_step)
  have sb : Looks (model prog w) hp (isInstance (.ref x) (.type "BaseException")) true := ty.andThen (looks_subIn X T.hs)
  have ar := PySem.F.args_bexc_ga (.ref x) (.str "__class__" tk)
  refine codeAny_call_builtin PySem.F.excAttr_ValueError.ga.plain PySem.F.entry_bexc_ga (@check_slot (model prog w) _ _ ⟨hp, gs, dr, tk + 1, os⟩ "BaseException.__getattribute__" "BaseException" "__getattribute__" (.ref x) [.str "__class__" tk] [] _ (by decide +kernel) (by decide +kernel) sb ar ?_)
  unfold Builtin.«object.__getattribute__»
  refine wpAny_bind (wpAny_of_eq (a := ((Value.ref x : Value), [Value.str "__class__" tk])) (by first | rfl | (simp only [slotArgs]; rfl)) ?_)
  repeat (first | (with_reducible refine ty.at ?_) | (with_reducible refine fd.at ?_) | wp_step)
  refine class_get (s := ⟨hp, gs, dr, tk + 1, os⟩) (ox := ox) (od := od) X I T.hm ?_
  repeat (first | (rw [handedOut_of (v := .ref D) rfl]) | wp_step)
  exact h
/-- such an exception, whatever dict it has -/
theorem kit (T : L2.ExcC K D) : KitX K (.ref x) (.ref D) (fun h => ∃ od, InstAt h x ox D od) where
  ty := fun _ _ _ ⟨_, I⟩ => I.type
  it := fun _ _ X _ => by
    obtain ⟨cd, hc, _⟩ := any_some T.hd
    unfold clsIn at hc
    split at hc
    · rename_i ho
      intro A' Q' E' s' k q
      exact wpAny_bind (wpAny_loadPart (k _ _ (X _ _ ho)) (wpAny_pure q))
    · cases hc
  ne := fun h tp dd its n sl X htp => by
    obtain ⟨cd, hc, _⟩ := any_some T.hd
    cases q : ((.ref D : Value) == .ref tp) with
    | false => rfl
    | true =>
      obtain rfl : D = tp := Value.ref.inj (beq_iff_eq.mp q)
      unfold clsIn at hc
      split at hc
      · rename_i ho
        cases (X _ _ ho).symm.trans htp
      · cases hc
  ca := fun X ⟨_, I⟩ k => cls_exc T X I k
end
end VV
namespace VV
open PySem PySem.Spec PyProof.Rows L2 VB VY VZ
abbrev exO (C t : Addr) (od : Option Addr) : Obj := PySem.W.excObj C t od .none
/-- an exception of the own class at C, its dict at od -/
def ExV (C : Addr) (od : Option Addr) (e : Addr) : HO := .ext fun h => ∃ t1, h.get? e = some (exO C t1 od)
theorem exv_ok {P : Program} {w : World} {H : Hp} {h : Heap} {e C t1 : Addr} {od : Option Addr} (g : h.get? e = some (exO C t1 od)) : ObjOk P w H h e (ExV C od e) :=
  ⟨⟨t1, g⟩, ⟨_, g⟩, fun _ _ ⟨t2, q⟩ k => ⟨t2, k _ q⟩⟩
section
variable {X : Cx} {C fI : Addr} {qual f lit n B i newId : Str} {pins : List (Addr × Obj)} {σ : L2.St} {H : Hp} {s : Shared}
/-- the exception and its dict are laid -/
theorem lay {v : V} {u : Value} {h' : Heap} {g : Array GenState} {dr : Drawn} {tk tk' : Nat} {os : OsState} {hp : Heap} {e d : Addr} {Q : VK} (I1 : Inv X pins σ H ⟨hp, g, dr, tk, os⟩) (rv : RelV v u) (M : Made hp h' e C d f u)
    (q : ∀ e d, H e = none → H d = none → e ≠ d → Q (.ref e) (upd (upd H d (.xd [(f, v)])) e (ExV C (some d) e))) : EP X pins σ Q (.ref e) ⟨h', g, dr, tk', os⟩ := by
  obtain ⟨t1, hoe⟩ := M.obj
  obtain ⟨G', g1, g2⟩ := restrict h' fun b => decide (b ≠ e)
  have gk : ∀ b, b ≠ e → G'.get? b = h'.get? b := fun b hb => g1 b (decide_eq_true hb)
  have ge : G'.get? e = none := g2 e (by simp)
  have old : ∀ b o, hp.get? b = some o → G'.get? b = some o := fun b o q => (gk b (Nat.ne_of_lt (Nat.lt_of_lt_of_le (Heap.lt_size q) M.new))).trans (M.keep b o q)
  have ob : ObjOk X.prog X.w (upd H d (.xd [(f, v)])) G' d (.xd [(f, v)]) :=
    ⟨_, M.ns.at (fun o q => (gk d M.dne).trans q), fun y => relO_put rv (mA := fun _ => none) (fs := []) (fun _ => True.intro) y⟩
  have J : Inv X pins σ (upd H d (.xd [(f, v)])) ⟨G', g, dr, tk', os⟩ := I1.laid (t' := tk') old M.big ob
  have fe : H e = none := I1.hok.fresh M.new
  have fd : H d = none := I1.hok.fresh M.big
  have up : ∀ b o, G'.get? b = some o → h'.get? b = some o := fun b o q => by
    by_cases hb : b = e
    · rw [hb, ge] at q
      cases q
    · rw [← gk b hb]
      exact q
  have nu : upd H d (.xd [(f, v)]) e = none := by
    rw [upd_ne (Ne.symm M.dne)]
    exact fe
  exact ⟨.ref e, _, J.laidN (s := ⟨G', g, dr, tk', os⟩) (h' := h') (t' := tk') up ge nu (exv_ok hoe), rfl, q e d fe fd (Ne.symm M.dne)⟩
end
end VV
namespace VV
open PySem PySem.Spec PyProof.Rows L2 VB VY VZ
section
variable {X : Cx} {C fI : Addr} {qual f lit n : Str} {B i newId : String} {bmB : List Value} {k : Nat} {p pos : Pos}
/-- what a new exception with the field v leaves -/
def newV (C : Addr) (f : Str) (v : V) : Hp → VK → Prop := fun H Q => ∀ e d, H e = none → H d = none → e ≠ d → Q (.ref e) (upd (upd H d (.xd [(f, v)])) e (ExV C (some d) e))
def tMkV (C : Addr) (f : Str) (ta : TA) : TE := fun σ H Q => ta σ H fun vs H1 => ∃ v, vs = [v] ∧ newV C f v H1 Q
/-- n(e), the class at C -/
theorem pe_mkV {a : Expr} {ta : TA} (T : TxtF X.prog X.K X.mg C fI qual f lit B i newId bmB) (BF : Base B i newId bmB) (hm : X.mg n = some (.ref C)) (hr : Room k X.A) (ha : PA X [a] ta) (hg : Gl X n) (hdb : (n == ("__debug__" : Str)) = false := by decide)
    (he : starEach (a :: []) X.env = (false, eval a X.env) :: starEach [] X.env := by rfl) (hpl : (backTo pos (starEach [] X.env)).any (·.1) = false := by rfl) : PE X (.Call (.Name n p) [a] [] pos) (tMkV C f ta) := by
  refine ⟨fun pins s σ H Q I h => ?_⟩
  refine wpAny_Call_Name_kw (ld_glob I hg hm ?_ hdb)
  refine PySem.W.callWith_K (h₀ := X.base) I.ok.mod.kin T.kC (thn (ha.run pos pins s σ H _ I h) fun us s1 ⟨vs, H1, I1, r1, v, ev, q1⟩ => ?_) he hpl
  subst ev
  refine ⟨I1.kIn, ?_⟩
  obtain ⟨u, rfl, rv⟩ := r1.one
  have hlim := I1.nolimit
  have bs := fun b o e => (I1.bs b o e).1
  obtain ⟨mb, hb, hbb⟩ := I1.ok.mod.blt
  have hg1 := I1.ok.mod.glob.keeps bs
  have hb1 := hb.keeps bs
  obtain ⟨hp, g, dr, tk, os⟩ := s1
  exact wpAny_call (made T BF (by show 1 ≤ sizeLine; rw [sizeLine_eq]; omega) (fun a B' p1 p2 doc pm an cdv ct cc => T.bd B' p1 p2 doc pm an cdv ct cc a u) I1.kIn hg1 hb1 hbb hlim (by have := hr.dp; omega) fun h' tk' e d M => lay I1 rv M q1)
/-- n(f = e) -/
def tMkK (C : Addr) (f : Str) (tk : TA) : TE := fun σ H Q => tk σ H fun zs H1 => ∃ v, zs = [v] ∧ newV C f v H1 Q
theorem pe_mkK {kws : List Keyword} {tk : TA} (T : TxtF X.prog X.K X.mg C fI qual f lit B i newId bmB) (BF : Base B i newId bmB) (hm : X.mg n = some (.ref C)) (hr : Room k X.A) (hkw : PK X kws tk) (hg : Gl X n)
    (hall : (backToKw pos (keywordEach kws X.env)).all (·.1.isSome) = true := by rfl) (hks : (backToKw pos (keywordEach kws X.env)).filterMap (·.1) = [f] := by rfl) (hdb : (n == ("__debug__" : Str)) = false := by decide)
    (hpl : ((backTo pos (starEach [] X.env)).any (·.1) || (backToKw pos (keywordEach kws X.env)).any (·.1.isNone)) = false := by rfl) : PE X (.Call (.Name n p) [] kws pos) (tMkK C f tk) := by
  refine ⟨fun pins s σ H Q I h => ?_⟩
  refine wpAny_Call_Name_kw (ld_glob I hg hm ?_ hdb)
  refine PySem.W.callWith_KW0 (h₀ := X.base) I.ok.mod.kin T.kC hall ?_ hpl
  refine thn (hkw.run pos pins s σ H _ I h) fun ws s1 ⟨zs, H1, I1, r1, v, ev, q1⟩ => ⟨I1.kIn, ?_⟩
  rw [hks]
  subst ev
  obtain ⟨u, rfl, rv⟩ := r1.one
  have hlim := I1.nolimit
  have bs := fun b o e => (I1.bs b o e).1
  obtain ⟨mb, hb, hbb⟩ := I1.ok.mod.blt
  have hg1 := I1.ok.mod.glob.keeps bs
  have hb1 := hb.keeps bs
  obtain ⟨hp, g, dr, tk, os⟩ := s1
  exact wpAny_call (made T BF (vs := []) (kw := [(f, u)]) (by show 0 ≤ sizeLine; rw [sizeLine_eq]; omega) (fun a B' p1 p2 doc pm an cdv ct cc => T.bk B' p1 p2 doc pm an cdv ct cc a u) I1.kIn hg1 hb1 hbb hlim (by have := hr.dp; omega) fun h' tk' e d M => lay I1 rv M q1)
/-- n(), a class without a field -/
def tMk0 (C : Addr) : TE := fun σ H Q => ∀ e, H e = none → Q (.ref e) (upd H e (ExV C none e))
theorem pe_mk0 (T : Txt0 X.prog X.K X.mg C fI qual B i newId bmB) (BF : Base B i newId bmB) (hm : X.mg n = some (.ref C)) (hr : Room k X.A) (hg : Gl X n) (hdb : (n == ("__debug__" : Str)) = false := by decide)
    (hall : (backToKw pos (keywordEach [] X.env)).all (·.1.isSome) = true := by rfl) (hks : (backToKw pos (keywordEach [] X.env)).filterMap (·.1) = [] := by rfl)
    (hpl : ((backTo pos (starEach [] X.env)).any (·.1) || (backToKw pos (keywordEach [] X.env)).any (·.1.isNone)) = false := by rfl) : PE X (.Call (.Name n p) [] [] pos) (tMk0 C) := by
  refine ⟨fun pins s σ H Q I h => ?_⟩
  refine wpAny_Call_Name_kw (ld_glob I hg hm ?_ hdb)
  refine PySem.W.callWith_KW0 (h₀ := X.base) I.ok.mod.kin T.kC hall ?_ hpl
  refine thn ((pk_nil (X := X)).run pos pins s σ H (fun zs H1 => H1 = H) I rfl) fun ws s1 ⟨zs, H1, I1, r1, e1⟩ => ⟨I1.kIn, ?_⟩
  rw [hks]
  subst e1
  have hlim := I1.nolimit
  have bs := fun b o e => (I1.bs b o e).1
  obtain ⟨mb, hb, hbb⟩ := I1.ok.mod.blt
  have hg1 := I1.ok.mod.glob.keeps bs
  have hb1 := hb.keeps bs
  obtain ⟨hp, g, dr, tk, os⟩ := s1
  exact wpAny_call (made0 T BF I1.kIn hg1 hb1 hbb hlim (by have := hr.dp; omega) fun h' tk' e t1 kp nw ge => ⟨.ref e, _, I1.laid (t' := tk') kp nw (exv_ok ge), rfl, h e (I1.hok.fresh nw)⟩)
/-- e.f, e an exception held as a value -/
def tFldV (K : PySem.W.Frag) (f : Str) (te : TE) : TE := fun σ H Q => te σ H fun x H1 => ∃ (a C dd : Addr) (fs : List (Str × V)) (v : V), x = .ref a ∧ H1 a = some (ExV C (some dd) a) ∧ XfC K C ∧ PySem.W.findIn K (.ref C) f = some none ∧ H1 dd = some (.xd fs) ∧ fs.lookup f = some v ∧ Q v H1
theorem pe_fldV {e : Expr} {te : TE} (he : PE X e te) (hb : attributeBase e n X.env (eval e X.env) = eval e X.env := by rfl) : PE X (.Attribute e n pos) (tFldV X.K n te) := by
  refine ⟨fun pins s σ H Q I h => ?_⟩
  refine attr_of hb (thn (he.run pins s σ H _ I h) fun u s1 hh => ?_)
  obtain ⟨x, H1, I1, rx, a, C, dd, fs, v, ex, ha, T, hno, hd, l, q⟩ := hh
  subst ex
  obtain rfl : u = Value.ref a := rx
  obtain ⟨⟨t1, ga⟩, _⟩ := I1.hok a _ ha
  have hx : ObjOk X.prog X.w H1 s1.heap dd (.xd fs) := I1.hok dd _ hd
  obtain ⟨mA, hns, hr⟩ := hx
  obtain ⟨od, ho, hl⟩ := lookIn_ns hns
  obtain ⟨u, hu, ru⟩ := RelO.some_of (v := v) (o := mA n) (by rw [← l]; exact hr n)
  have J : PySem.W.InstAt s1.heap a (exO C t1 (some dd)) C (some od) := ⟨ga, rfl, rfl, ho⟩
  exact HandSPX.exc_get I1.kIn J T.ga T.gg T.exC (PySem.W.findObj_own T.hdC hno rfl (by rw [hl, hu])) (handed_of ru) ⟨v, H1, I1.tok _, ru, q⟩
theorem instV {pins : List (Addr × Obj)} {σ : L2.St} {H : Hp} {s : Shared} {a C : Addr} {od : Option Addr} (I : Inv X pins σ H s) (ha : H a = some (ExV C od a)) (hd : ∀ dd, od = some dd → ∃ fs, H dd = some (.xd fs)) : ∃ t1 o, PySem.W.InstAt s.heap a (exO C t1 od) C o := by
  obtain ⟨⟨t1, ga⟩, _⟩ := I.hok a _ ha
  cases od with
  | none => exact ⟨t1, none, ga, rfl, rfl, trivial⟩
  | some dd =>
    obtain ⟨fs, ed⟩ := hd dd rfl
    have hx : ObjOk X.prog X.w H s.heap dd (.xd fs) := I.hok dd _ ed
    obtain ⟨mA, hns, hr⟩ := hx
    obtain ⟨od, ho, hl⟩ := lookIn_ns hns
    exact ⟨t1, some od, ga, rfl, rfl, ho⟩
/-- an exception stands at a -/
def Held (H : Hp) (a C : Addr) : Prop := ∃ od, H a = some (ExV C od a) ∧ ∀ dd, od = some dd → ∃ fs, H dd = some (.xd fs)
/-- isinstance(e, c) -/
def rIsV (K : PySem.W.Frag) : List V → Hp → VK → Prop := fun xs H Q => ∃ (a C : Addr) (c : V) (u : Value) (b : Bool), xs = [.ref a, c] ∧ Held H a C ∧ ExcC K C ∧ ClsV c u ∧ PySem.W.kitOne K (.ref C) u = some b ∧ Q (.bl b) H
theorem call_isV : CallR X (.builtin "isinstance") (rIsV X.K) := by
  intro pins s σ H xs us Q I r h
  obtain ⟨a, C, c, u, b, rfl, ⟨od, ha, hd⟩, T, hc, e, q⟩ := h
  obtain ⟨u1, u2, rfl, r1, r2⟩ := vals2 r
  cases (show u1 = Value.ref a from r1)
  have e2 := hc.eq r2
  subst e2
  obtain ⟨t1, o, J⟩ := instV I ha hd
  exact PySem.W.kia_one (kit T) I.kIn ⟨o, J⟩ e (fun z => nomatch z) fun tk => ⟨.bl b, H, I.tok tk, rfl, q⟩
/-- isinstance(e, (c1, c2, ..)) -/
def rIsVT (K : PySem.W.Frag) : List V → Hp → VK → Prop := fun xs H Q => ∃ (a C tp : Addr) (cs : List V) (us : List Value) (b : Bool), xs = [.ref a, .ref tp] ∧ Held H a C ∧ ExcC K C ∧ H tp = some (.tup cs) ∧ Paired ClsV cs us ∧ PySem.W.kitAny K (.ref C) us = some b ∧ Q (.bl b) H
theorem call_isVT : CallR X (.builtin "isinstance") (rIsVT X.K) := by
  intro pins s σ H xs us Q I r h
  obtain ⟨a, C, tp, cs, ws, b, rfl, ⟨od, ha, hd⟩, T, hT, k, e, q⟩ := h
  obtain ⟨u1, u2, rfl, r1, r2⟩ := vals2 r
  cases (show u1 = Value.ref a from r1)
  cases (show u2 = Value.ref tp from r2)
  obtain ⟨_, its, rv, o, h1, h2, n, h3⟩ := (show ObjOk X.prog X.w H s.heap tp (.tup cs) from I.hok tp _ hT)
  have e3 := ClsV.all k rv
  subst e3
  obtain ⟨oc, od', dt, sl⟩ := o
  simp only at h2 h3
  subst h2 h3
  obtain ⟨t1, o, J⟩ := instV I ha hd
  exact PySem.W.kia_tup (kit T) I.kIn ⟨o, J⟩ h1 e (fun z => nomatch z) fun tk => ⟨.bl b, H, I.tok tk, rfl, q⟩
end
end VV
namespace Vr
open PySem PySem.Spec PyProof.Rows L2
section
variable {X : Cx} {k : Nat} {f : Addr} {fd : FuncData} {ps : List Str} {sp : Sp} {x : Str} {p pos : Pos} {e : Expr} {es : List Expr} {t : TA}
/-- a def is called whose promise is asked only where no repr is under way -/
theorem pe_callG (F : GOk X.prog X.w X.K X.mg X.base CX0 k f fd ps sp) (ga : X.A.guards = some []) (hr : Room k X.A) (hg : Gl X x) (hm : X.mg x = some (.ref f)) (hk : PySem.W.keepIn X.K (.ref f) = true) (hb : L2.Binds X.K fd ps [])
    (ha : PA X (e :: es) t) (hdb : (x == ("__debug__" : Str)) = false := by decide) (he : starEach (e :: es) X.env = (false, eval e X.env) :: starEach es X.env := by rfl) (hpl : (backTo pos (starEach es X.env)).any (·.1) = false := by rfl) :
    PE X (.Call (.Name x p) (e :: es) [] pos) (tCall sp [] E0 t) := by
  refine ⟨fun pins s σ H Q I h => wpAny_Call_Name_kw (ld_glob I hg hm (PySem.W.callWith_K (h₀ := X.base) I.ok.mod.kin hk (thn (ha.run pos pins s σ H _ I h) ?_) he hpl) hdb)⟩
  intro us s1 ⟨vs, H1, I1, r, q⟩
  refine ⟨I1.kIn, ?_⟩
  have q' : sp vs H1 Q E0 := by
    have z : sp (vs ++ []) H1 Q E0 := q
    rw [List.append_nil] at z
    exact z
  have len : us.length = ps.length := r.length.symm.trans (F.len _ _ _ _ q')
  have b := hb s1 us I1.kIn (by rw [List.append_nil]; exact len)
  rw [List.append_nil] at b
  refine wpAny_call (codeAny_mono (F.run X.A X.stack s1 H1 ⟨us, []⟩ us vs Q E0 ga hr I1.env0 b r q') ?_)
  intro res s' done
  cases res with
  | error err => exact done.elim
  | ok fl =>
    cases fl with
    | ret u => exact I1.after done
    | next => exact done.elim
    | brk => exact done.elim
    | cont => exact done.elim
end
end Vr
namespace K21
open PySem PySem.Spec PyProof.Rows L2 Vr
def top (i : Nat) : Stmt := PySem.Challenge.pw_eitherside_k21_errors.main.body.getD i (.Pass ⟨0, 0, 0, 0⟩)
abbrev sBag : Stmt := top 14
abbrev sTake : Stmt := top 15
/-- a bag at b: what is left of a great cell, a seed, a count -/
def Bag (H : Hp) (b : Addr) : Prop := ∃ x y z : Int, H b = some (.lst [.int x, .int y, .int z]) ∧ 0 ≤ x ∧ 0 ≤ y ∧ y < 2147483629
/-- all but the bag stands -/
def But (b : Addr) (H H' : Hp) : Prop := ∀ c o, H c = some o → c ≠ b → H' c = some o
def spTake : Sp := fun vs H Q _ => ∃ (b : Addr) (m : Int), vs = [.ref b, .int m] ∧ 0 < m ∧ m < 1000000 ∧ Bag H b ∧
  ∀ (r : Int) (H' : Hp), 0 ≤ r → r < m → Bag H' b → But b H H' → Q (.int r) H'
section
variable {P : Program} {w : World} {K : PySem.W.Frag} {mg : Str → Option Value} {base : Heap}
theorem scTake : FnScope ["_law_bag_here", "_law_many", "_law_digit"] ["_law_bag_here", "_law_many"] (defScope sTake) := ⟨rfl, rfl, rfl, by decide +kernel, rfl, by decide +kernel, by decide +kernel⟩
theorem ok_take {f : Addr} {fd : FuncData} (F : Fun K "_law_take" "_law_take" sTake f fd) : FnOk P w K mg base CX0 1 f fd ["_law_bag_here", "_law_many"] spTake := by
  refine F.ok scTake (fun vs H Q E h => ?_) (fun cdv A outer s H vs Q E hr h => ?_)
  · obtain ⟨b, m, rfl, _⟩ := h
    rfl
  · obtain ⟨b, m, rfl, m0, m1, ⟨x, y, z, hb, x0, y0, y1⟩, k⟩ := h
    refine ⟨_, (pss_cons (ps_if (pt_cmpR op_gt (pe_ix ix_list (pv 0) pe_int (fun _ _ => rfl)) pe_int (nomark _)) (pss_cons (ps_set (i := 2) scTake.nd rfl (Or.inl rfl) (pe_op op_modN (pe_ix ix_list (pv 0) pe_int (fun _ _ => rfl)) (pv 1)))
      (pss_cons (ps_asg (pe_op op_fdivN (pe_ix ix_list (pv 0) pe_int (fun _ _ => rfl)) (pv 1)) (pg_sub (pv 0) pe_int set_list))
      (pss_one (ps_ret (pv 2))))) pss_nil)
      (pss_cons (ps_asg (pe_op op_add (pe_ix ix_list (pv 0) pe_int (fun _ _ => rfl)) pe_int) (pg_sub (pv 0) pe_int set_list))
      (pss_cons (ps_asg (pe_op op_mod (pe_op op_add (pe_op op_add (pe_op op_mul (pe_ix ix_list (pv 0) pe_int (fun _ _ => rfl)) pe_int) (pe_op op_mul pe_int (pe_ix ix_list (pv 0) pe_int (fun _ _ => rfl)))) pe_int) pe_int) (pg_sub (pv 0) pe_int set_list))
      (pss_one (ps_ret (pe_op op_modN (pe_op op_fdiv (pe_op op_mod (pe_op op_pow (pe_op op_fdiv (pe_ix ix_list (pv 0) pe_int (fun _ _ => rfl)) pe_int) pe_int) pe_int) pe_int) (pv 1))))))), ?_⟩
    have f0 : ∀ i : Int, 0 ≤ i.fmod m := fun i => Int.fmod_nonneg_of_pos i m0
    have f1 : ∀ i : Int, i.fmod m < m := fun i => Int.fmod_lt_of_pos i m0
    refine ⟨_, rfl, b, _, _, _, rfl, rfl, SqL.of hb, rfl, _, _, rfl, rfl, _, rfl, ?_⟩
    refine ite2 (fun c => ?_) (fun c => ?_)
    · refine ⟨_, rfl, b, _, _, _, rfl, rfl, SqL.of hb, rfl, _, rfl, _, _, rfl, rfl, by omega, ?_⟩
      refine ⟨_, rfl, b, _, _, _, rfl, rfl, SqL.of hb, rfl, _, rfl, _, _, rfl, rfl, ⟨by omega, by omega⟩, ?_⟩
      refine ⟨_, rfl, b, _, _, _, rfl, rfl, hb, rfl, _, rfl, ?_⟩
      refine k _ _ (f0 _) (f1 _) ⟨_, y, z, upd_same, Int.fdiv_nonneg x0 (by omega), y0, y1⟩ fun c o e n => ?_
      rw [upd_ne n]
      exact e
    · refine ⟨_, rfl, b, _, _, _, rfl, rfl, SqL.of hb, rfl, _, _, rfl, rfl, _, rfl, b, _, _, _, rfl, rfl, hb, rfl, ?_⟩
      refine ⟨_, rfl, b, _, _, _, rfl, rfl, SqL.of upd_same, rfl, _, _, rfl, rfl, Or.inr ⟨by decide, by decide⟩, _, rfl, b, _, _, _, rfl, rfl, SqL.of upd_same, rfl, _, _, rfl, rfl, Or.inl ⟨by decide, by decide⟩,
        _, _, rfl, rfl, _, _, rfl, rfl, _, _, rfl, rfl, (by show (0 : Int) < 2147483629; decide), _, rfl, b, _, _, _, rfl, rfl, upd_same, rfl, ?_⟩
      have y2 := Int.emod_nonneg (y * 48271 + 7109 * (z + 1) + 13) (show (2147483629 : Int) ≠ 0 by decide)
      have y3 := Int.emod_lt_of_pos (y * 48271 + 7109 * (z + 1) + 13) (show (0 : Int) < 2147483629 by decide)
      refine ⟨_, rfl, b, _, _, _, rfl, rfl, SqL.of upd_same, rfl, _, _, rfl, rfl, ⟨by decide, by decide⟩, _, _, rfl, rfl, ⟨by decide, by decide, ?_⟩, _, _, rfl, rfl, (by show (0 : Int) < 2147483579; decide), _, _, rfl, rfl, ⟨by decide, by decide⟩, _, rfl, _, _, rfl, rfl, by omega, ?_⟩
      · show ((y * 48271 + 7109 * (z + 1) + 13) % 2147483629 / 8).natAbs < 2 ^ 64
        omega
      · refine k _ _ (f0 _) (f1 _) ⟨x, (y * 48271 + 7109 * (z + 1) + 13) % 2147483629, z + 1, upd_same, x0, y2, y3⟩ fun c o e n => ?_
        rw [upd_ne n, upd_ne n]
        exact e
end
theorem But.refl (b : Addr) (H : Hp) : But b H H := fun _ _ e _ => e
theorem But.trans {b : Addr} {H H1 H2 : Hp} (x : But b H H1) (y : But b H1 H2) : But b H H2 := fun c o e n => y c o (x c o e n) n
theorem But.new {b p : Addr} {H : Hp} {o : HO} (hp : H p = none) : But b H (upd H p o) := fun c u e _ => by
  rw [upd_ne (ne_of_none e hp)]
  exact e
/-- a new object p, changed later -/
theorem But.newer {b p : Addr} {H H1 : Hp} {o : HO} (hp : H p = none) (x : But b H H1) : But b H (upd H1 p o) := fun c u e n => by
  rw [upd_ne (ne_of_none e hp)]
  exact x c u e n
theorem Bag.new {b p : Addr} {H : Hp} {o : HO} (h : Bag H b) (hp : p ≠ b) : Bag (upd H p o) b := by
  obtain ⟨x, y, z, e, r⟩ := h
  refine ⟨x, y, z, ?_, r⟩
  rw [upd_ne hp.symm]
  exact e
theorem Bag.ne {b p : Addr} {H : Hp} (h : Bag H b) (hp : H p = none) : p ≠ b := by
  obtain ⟨x, y, z, e, r⟩ := h
  exact (ne_of_none e hp).symm
def spBag (K : PySem.W.Frag) : Sp := fun vs H Q _ => ∃ (a : Addr) (ns : List Int) (at_ : Int), vs = [.ref a, .int at_] ∧ SqL K H a (ns.map V.int) ∧ ns.length ≤ 63 ∧ 0 ≤ at_ ∧ at_ < 1000 ∧
  ∀ (b : Addr) (H' : Hp), H b = none → Bag H' b → Same H H' → Q (.ref b) H'
section
variable {P : Program} {w : World} {K : PySem.W.Frag} {mg : Str → Option Value} {base : Heap}
theorem scBag : FnScope ["_law_script", "_law_at", "_law_cell", "_law_digits", "_law_mixed"] ["_law_script", "_law_at"] (defScope sBag) := ⟨rfl, rfl, rfl, by decide +kernel, rfl, by decide +kernel, by decide +kernel⟩
theorem ok_bag {f : Addr} {fd : FuncData} (F : Fun K "_law_bag" "_law_bag" sBag f fd) (gLen : mg "len" = none) (gAbs : mg "abs" = none) :
    FnOk P w K mg base CX0 1 f fd ["_law_script", "_law_at"] (spBag K) := by
  refine F.ok scBag (fun vs H Q E h => ?_) (fun cdv A outer s H vs Q E hr h => ?_)
  · obtain ⟨a, ns, i, rfl, _⟩ := h
    rfl
  · obtain ⟨a, ns, i, rfl, hS, hl, i0, i1, k⟩ := h
    refine ⟨_, (pss_cons (ps_set (i := 2) scBag.nd rfl (Or.inl rfl) (pe_ifExp (pt_cmpR op_lt (pv 1) (pe_callB call_len_seq (by rfl) gLen PySem.boot_len (pa_cons (pv 0) pa_nil)) (nomark _)) (pe_ix ix_list (pv 0) (pv 1) (fun _ _ => rfl)) pe_int))
      (pss_cons (ps_set (i := 3) scBag.nd rfl (Or.inl rfl) (pe_ifExp (pt_cmpR op_ge (pe_callB call_abs (by rfl) gAbs (by decide +kernel) (pa_cons (pv 2) pa_nil)) (pe_op op_pow pe_int pe_int) (nomark _)) (pe_callB call_abs (by rfl) gAbs (by decide +kernel) (pa_cons (pv 2) pa_nil)) pe_int))
      (pss_cons (ps_set (i := 4) scBag.nd rfl (Or.inl rfl) (pe_op op_mod (pe_op op_pow (pe_op op_add (pe_op op_add (pe_op op_mod (pv 2) pe_int) (pe_op op_mul pe_int (pv 1))) pe_int) pe_int) pe_int))
      (pss_one (ps_ret (pe_lst (pa_cons (pv 3) (pa_cons (pe_op op_mod (pe_op op_add (pe_op op_add (pe_op op_mul (pv 4) pe_int) (pe_op op_mul pe_int (pv 1))) pe_int) pe_int) (pa_cons (pv 1) pa_nil))))))))), ?_⟩
    refine ⟨_, rfl, _, rfl, a, _, rfl, Or.inl hS, _, _, rfl, rfl, _, rfl, ?_⟩
    refine ite2 (fun c => ?_) (fun c => ?_)
    · have c1 := of_decide_eq_true c
      obtain ⟨j, rfl⟩ := Int.eq_ofNat_of_zero_le i0
      rw [List.length_map] at c1
      have c2 : j < ns.length := by omega
      have e : (ns.map V.int)[j]? = some (V.int ns[j]) := by
        rw [List.getElem?_map, List.getElem?_eq_getElem c2]
        rfl
      refine ⟨_, rfl, _, rfl, a, _, _, _, rfl, rfl, hS, atI_nat e, ?_⟩
      generalize ns[j] = cell
      generalize (j : Int) = i at *
      have z2 := Int.emod_nonneg cell (show (2147483629 : Int) ≠ 0 by decide)
      have z3 := Int.emod_lt_of_pos cell (show (0 : Int) < 2147483629 by decide)
      have far : 0 ≤ (if cell < 0 then -cell else cell) := by split <;> omega
      have fin : ∀ dg : Int, 0 ≤ dg → gName 3 (.int dg) [some (.ref a), some (.int i), some (.int cell), none, none] H
          (tSeq (tAsg (tOp (rI (fun x j => 0 < j) fun i j => V.int (i % j)) (tOp (rI CPow fun i j => V.int (i ^ j.toNat)) (tOp (rI0 fun i j => V.int (i + j)) (tOp (rI0 fun i j => V.int (i + j)) (tOp (rI (fun x j => 0 < j) fun i j => V.int (i % j)) (tVar 2) (tC (V.int 2147483629))) (tOp (rI CMul fun i j => V.int (i * j)) (tC (V.int 6007)) (tVar 1))) (tC (V.int 31))) (tC (V.int 5))) (tC (V.int 2147483587))) (gName 4))
            (tRet (tLst (tCons (tVar 3) (tCons (tOp (rI (fun x j => 0 < j) fun i j => V.int (i % j)) (tOp (rI0 fun i j => V.int (i + j)) (tOp (rI0 fun i j => V.int (i + j)) (tOp (rI CMul fun i j => V.int (i * j)) (tVar 4) (tC (V.int 39373))) (tOp (rI CMul fun i j => V.int (i * j)) (tC (V.int 90001)) (tVar 1))) (tC (V.int 11))) (tC (V.int 2147483629))) (tCons (tVar 1) tNil)))))
            { nx := fun x H' => Q V.non H', rt := Q }) := by
        intro dg d0
        refine ⟨_, rfl, _, _, rfl, rfl, (by show (0 : Int) < 2147483629; decide), _, rfl, _, _, rfl, rfl, Or.inl ⟨by decide, by decide⟩, _, _, rfl, rfl, _, _, rfl, rfl, _, _, rfl, rfl, ⟨by decide, by decide, ?_⟩, _, _, rfl, rfl, (by show (0 : Int) < 2147483587; decide), ?_⟩
        · show (cell % 2147483629 + 6007 * i + 31).natAbs < 2 ^ 64
          omega
        generalize (cell % 2147483629 + 6007 * i + 31) ^ (5 : Int).toNat % 2147483587 = mx
        refine ⟨_, rfl, _, rfl, _, _, rfl, rfl, Or.inr ⟨by decide, by decide⟩, _, rfl, _, _, rfl, rfl, Or.inl ⟨by decide, by decide⟩, _, _, rfl, rfl, _, _, rfl, rfl, _, _, rfl, rfl, (by show (0 : Int) < 2147483629; decide), _, rfl, (by show 3 ≤ sizeLine; decide), fun p hp => ?_⟩
        refine k p _ hp ⟨_, _, i, upd_same, d0, Int.emod_nonneg _ (by decide), Int.emod_lt_of_pos _ (by decide)⟩ fun b o e => ?_
        rw [upd_ne (ne_of_none e hp)]
        exact e
      refine ⟨_, rfl, _, rfl, _, _, rfl, rfl, ⟨by decide, by decide, by decide⟩, _, _, rfl, rfl, _, rfl, ?_⟩
      refine ite2 (fun c => ?_) (fun c => ?_)
      · exact ⟨_, rfl, _, rfl, fin _ far⟩
      · exact fin 0 (by decide)
    · have z2 := Int.emod_nonneg (0 : Int) (show (2147483629 : Int) ≠ 0 by decide)
      have z3 := Int.emod_lt_of_pos (0 : Int) (show (0 : Int) < 2147483629 by decide)
      have far : 0 ≤ (if (0 : Int) < 0 then -(0 : Int) else (0 : Int)) := by split <;> omega
      have fin : ∀ dg : Int, 0 ≤ dg → gName 3 (.int dg) [some (.ref a), some (.int i), some (.int (0 : Int)), none, none] H
          (tSeq (tAsg (tOp (rI (fun x j => 0 < j) fun i j => V.int (i % j)) (tOp (rI CPow fun i j => V.int (i ^ j.toNat)) (tOp (rI0 fun i j => V.int (i + j)) (tOp (rI0 fun i j => V.int (i + j)) (tOp (rI (fun x j => 0 < j) fun i j => V.int (i % j)) (tVar 2) (tC (V.int 2147483629))) (tOp (rI CMul fun i j => V.int (i * j)) (tC (V.int 6007)) (tVar 1))) (tC (V.int 31))) (tC (V.int 5))) (tC (V.int 2147483587))) (gName 4))
            (tRet (tLst (tCons (tVar 3) (tCons (tOp (rI (fun x j => 0 < j) fun i j => V.int (i % j)) (tOp (rI0 fun i j => V.int (i + j)) (tOp (rI0 fun i j => V.int (i + j)) (tOp (rI CMul fun i j => V.int (i * j)) (tVar 4) (tC (V.int 39373))) (tOp (rI CMul fun i j => V.int (i * j)) (tC (V.int 90001)) (tVar 1))) (tC (V.int 11))) (tC (V.int 2147483629))) (tCons (tVar 1) tNil)))))
            { nx := fun x H' => Q V.non H', rt := Q }) := by
        intro dg d0
        refine ⟨_, rfl, _, _, rfl, rfl, (by show (0 : Int) < 2147483629; decide), _, rfl, _, _, rfl, rfl, Or.inl ⟨by decide, by decide⟩, _, _, rfl, rfl, _, _, rfl, rfl, _, _, rfl, rfl, ⟨by decide, by decide, ?_⟩, _, _, rfl, rfl, (by show (0 : Int) < 2147483587; decide), ?_⟩
        · show ((0 : Int) % 2147483629 + 6007 * i + 31).natAbs < 2 ^ 64
          omega
        generalize ((0 : Int) % 2147483629 + 6007 * i + 31) ^ (5 : Int).toNat % 2147483587 = mx
        refine ⟨_, rfl, _, rfl, _, _, rfl, rfl, Or.inr ⟨by decide, by decide⟩, _, rfl, _, _, rfl, rfl, Or.inl ⟨by decide, by decide⟩, _, _, rfl, rfl, _, _, rfl, rfl, _, _, rfl, rfl, (by show (0 : Int) < 2147483629; decide), _, rfl, (by show 3 ≤ sizeLine; decide), fun p hp => ?_⟩
        refine k p _ hp ⟨_, _, i, upd_same, d0, Int.emod_nonneg _ (by decide), Int.emod_lt_of_pos _ (by decide)⟩ fun b o e => ?_
        rw [upd_ne (ne_of_none e hp)]
        exact e
      refine ⟨_, rfl, _, rfl, _, _, rfl, rfl, ⟨by decide, by decide, by decide⟩, _, _, rfl, rfl, _, rfl, ?_⟩
      refine ite2 (fun c => ?_) (fun c => ?_)
      · exact ⟨_, rfl, _, rfl, fin _ far⟩
      · exact fin 0 (by decide)
end
end K21
namespace K21
open PySem PySem.Spec PyProof.Rows L2 Vr
abbrev sVal : Stmt := top 16
/-! ### data -/
mutual
inductive DatAt (H : Hp) : V → PyData → Prop
  | non : DatAt H .non .none
  | bl (b : Bool) : DatAt H (.bl b) (.bool b)
  | int (i : Int) : DatAt H (.int i) (.int i)
  | str (x : Str) : DatAt H (.str x) (.str x)
  | lst {a : Addr} {xs : List V} {ds : List PyData} : H a = some (.lst xs) → DatAll H xs ds → DatAt H (.ref a) (.list ds)
  | tup {a : Addr} {xs : List V} {ds : List PyData} : H a = some (.tup xs) → DatAll H xs ds → DatAt H (.ref a) (.tuple ds)
inductive DatAll (H : Hp) : List V → List PyData → Prop
  | nil : DatAll H [] []
  | cons {v : V} {vs : List V} {d : PyData} {ds : List PyData} : DatAt H v d → DatAll H vs ds → DatAll H (v :: vs) (d :: ds)
end
section
variable {H H' : Hp} {K : PySem.W.Frag}
mutual
theorem DatAt.dp : ∀ {v : V} {d : PyData}, DatAt H v d → Dp K H v d
  | _, _, .non => .non
  | _, _, .bl b => .bl b
  | _, _, .int i => .int i
  | _, _, .str x => .str x
  | _, _, .lst h r => .lst (SqL.of h) r.dp
  | _, _, .tup h r => .tup (SqT.of h) r.dp
theorem DatAll.dp : ∀ {vs : List V} {ds : List PyData}, DatAll H vs ds → DpAll K H vs ds
  | _, _, .nil => .nil
  | _, _, .cons h r => .cons h.dp r.dp
end
mutual
theorem DatAt.keep (k : ∀ p xs, (H p = some (.tup xs) → H' p = some (.tup xs)) ∧ (H p = some (.lst xs) → H' p = some (.lst xs))) : ∀ {v : V} {d : PyData}, DatAt H v d → DatAt H' v d
  | _, _, .non => .non
  | _, _, .bl b => .bl b
  | _, _, .int i => .int i
  | _, _, .str x => .str x
  | _, _, .lst h r => .lst ((k _ _).2 h) (DatAll.keep k r)
  | _, _, .tup h r => .tup ((k _ _).1 h) (DatAll.keep k r)
theorem DatAll.keep (k : ∀ p xs, (H p = some (.tup xs) → H' p = some (.tup xs)) ∧ (H p = some (.lst xs) → H' p = some (.lst xs))) : ∀ {vs : List V} {ds : List PyData}, DatAll H vs ds → DatAll H' vs ds
  | _, _, .nil => .nil
  | _, _, .cons h r => .cons (DatAt.keep k h) (DatAll.keep k r)
end
theorem DatAt.same {v : V} {d : PyData} (h : DatAt H v d) (k : Same H H') : DatAt H' v d := h.keep fun p xs => ⟨k p _, k p _⟩
theorem DatAll.same {v : List V} {d : List PyData} (h : DatAll H v d) (k : Same H H') : DatAll H' v d := h.keep fun p xs => ⟨k p _, k p _⟩
theorem DatAll.length : ∀ {vs : List V} {ds : List PyData}, DatAll H vs ds → vs.length = ds.length
  | _, _, .nil => rfl
  | _, _, .cons _ r => by simp [r.length]
theorem DatAll.append : ∀ {vs ws : List V} {ds es : List PyData}, DatAll H vs ds → DatAll H ws es → DatAll H (vs ++ ws) (ds ++ es)
  | _, _, _, _, .nil, r => r
  | _, _, _, _, .cons h r, q => .cons h (r.append q)
end
theorem Same.new {H : Hp} {p : Addr} {o : HO} (hp : H p = none) : Same H (upd H p o) := fun c u e => by
  rw [upd_ne (ne_of_none e hp)]
  exact e
/-- a new object, changed later -/
theorem Same.newer {H H1 : Hp} {p : Addr} {o : HO} (hp : H p = none) (x : Same H H1) : Same H (upd H1 p o) := fun c u e => by
  rw [upd_ne (ne_of_none e hp)]
  exact x c u e

theorem Same.but {H H' : Hp} (b : Addr) (k : Same H H') : But b H H' := fun c o e _ => k c o e
theorem Bag.same {H H' : Hp} {b : Addr} (h : Bag H b) (k : Same H H') : Bag H' b := by
  obtain ⟨x, y, z, e, r⟩ := h
  exact ⟨x, y, z, k _ _ e, r⟩
def okN (n : Nat) (d : PyData) : Bool := SeqAt.shaped (.list (List.replicate n d)) && (PyData.showable (.list (List.replicate n d)) && decide ((PyData.shown (.list (List.replicate n d))).length ≤ 1000))
def Small (d : PyData) : Prop := (okN 4 d && (okN 6 d && okN 10 d)) = true
def spVal : Sp := fun vs H Q _ => ∃ b : Addr, vs = [.ref b] ∧ Bag H b ∧ ∀ (v : V) (d : PyData) (H' : Hp), DatAt H' v d → Small d → Bag H' b → But b H H' → Q v H'
section
variable {P : Program} {w : World} {K : PySem.W.Frag} {mg : Str → Option Value} {base : Heap}
abbrev nVal : List Str := ["_law_bag_here", "_law_some"]
theorem scVal : FnScope nVal ["_law_bag_here"] (defScope sVal) := ⟨rfl, rfl, rfl, by decide +kernel, rfl, by decide +kernel, by decide +kernel⟩
theorem ok_val {f fT : Addr} {fd fdT : FuncData} (F : Fun K "_law_value" "_law_value" sVal f fd) (GT : FnOk P w K mg base CX0 1 fT fdT ["_law_bag_here", "_law_many"] spTake)
    (bT : Binds K fdT ["_law_bag_here", "_law_many"] []) (mT : mg "_law_take" = some (.ref fT)) (kT : PySem.W.keepIn K (.ref fT) = true) : FnOk P w K mg base CX0 2 f fd ["_law_bag_here"] spVal := by
  refine F.ok scVal (fun vs H Q E h => ?_) (fun cdv A outer s H vs Q E hr h => ?_)
  · obtain ⟨b, rfl, _⟩ := h
    rfl
  · obtain ⟨b, rfl, hb, k⟩ := h
    have r1 : Room 1 _ := hr
    refine ⟨_, (pss_cons (ps_set (i := 1) scVal.nd rfl (Or.inl rfl) (pe_lst (pa_cons pe_non (pa_cons pe_bl (pa_cons pe_int (pa_cons (pe_un un_neg pe_int) (pa_cons (pe_op op_pow pe_int pe_int) (pa_cons pe_str (pa_cons pe_str (pa_cons (pe_tup pa_nil) (pa_cons (pe_tup (pa_cons pe_str (pa_cons pe_int pa_nil))) (pa_cons (pe_lst pa_nil) (pa_cons (pe_lst (pa_cons pe_non pa_nil)) (pa_cons (pe_tup (pa_cons (pe_tup pa_nil) (pa_cons pe_str pa_nil))) pa_nil))))))))))))))
      (pss_one (ps_ret (pe_ix ix_list (pv 1) (pe_call GT r1 (by rfl) mT kT bT .nil pass0 (pa_cons (pv 0) (pa_cons pe_int pa_nil))) (fun _ _ => rfl))))), ?_⟩
    refine ⟨_, rfl, _, _, rfl, rfl, ⟨by decide, by decide, by decide⟩, (by show 0 ≤ sizeLine; decide), fun p1 h1 => ⟨(by show 2 ≤ sizeLine; decide), fun p2 h2 => ⟨(by show 0 ≤ sizeLine; decide), fun p3 h3 => ⟨(by show 1 ≤ sizeLine; decide), fun p4 h4 => ⟨(by show 0 ≤ sizeLine; decide), fun p5 h5 => ⟨(by show 2 ≤ sizeLine; decide), fun p6 h6 => ⟨(by show 12 ≤ sizeLine; decide), fun p7 h7 => ?_⟩⟩⟩⟩⟩⟩⟩
    have s1 := Same.new (o := .tup []) h1
    have g1 := upd_same (H := H) (a := p1) (o := .tup [])
    generalize upd H p1 (.tup []) = H1 at *
    have s2 := Same.new (o := .tup [.str "a", .int 1]) h2
    have g2 := upd_same (H := H1) (a := p2) (o := .tup [.str "a", .int 1])
    generalize upd H1 p2 (.tup [.str "a", .int 1]) = H2 at *
    have s3 := Same.new (o := .lst []) h3
    have g3 := upd_same (H := H2) (a := p3) (o := .lst [])
    generalize upd H2 p3 (.lst []) = H3 at *
    have s4 := Same.new (o := .lst [.non]) h4
    have g4 := upd_same (H := H3) (a := p4) (o := .lst [.non])
    generalize upd H3 p4 (.lst [.non]) = H4 at *
    have s5 := Same.new (o := .tup []) h5
    have g5 := upd_same (H := H4) (a := p5) (o := .tup [])
    generalize upd H4 p5 (.tup []) = H5 at *
    have s6 := Same.new (o := .tup [.ref p5, .str "b"]) h6
    have g6 := upd_same (H := H5) (a := p6) (o := .tup [.ref p5, .str "b"])
    generalize upd H5 p6 (.tup [.ref p5, .str "b"]) = H6 at *
    have b1 := hb.same s1
    have b2 := b1.same s2
    have b3 := b2.same s3
    have b4 := b3.same s4
    have b5 := b4.same s5
    have b6 := b5.same s6
    have n1 := hb.ne h1
    have n2 := b1.ne h2
    have n3 := b2.ne h3
    have n4 := b3.ne h4
    have n5 := b4.ne h5
    have n6 := b5.ne h6
    have n7 := b6.ne h7
    have s17 := fun (o : HO) => Same.new (o := o) h7
    refine ⟨_, rfl, _, rfl, b, 12, rfl, by decide, by decide, b6.same (s17 _), fun r H8 r0 r1 hb8 k8 => ?_⟩
    have f7 := k8 p7 _ upd_same n7
    have f6 := k8 p6 _ (s17 _ _ _ g6) n6
    have f5 := k8 p5 _ (s17 _ _ _ (s6 _ _ g5)) n5
    have f4 := k8 p4 _ (s17 _ _ _ (s6 _ _ (s5 _ _ g4))) n4
    have f3 := k8 p3 _ (s17 _ _ _ (s6 _ _ (s5 _ _ (s4 _ _ g3)))) n3
    have f2 := k8 p2 _ (s17 _ _ _ (s6 _ _ (s5 _ _ (s4 _ _ (s3 _ _ g2))))) n2
    have f1 := k8 p1 _ (s17 _ _ _ (s6 _ _ (s5 _ _ (s4 _ _ (s3 _ _ (s2 _ _ g1)))))) n1
    have kk : But b H H8 := (Same.but b (s1.trans (s2.trans (s3.trans (s4.trans (s5.trans (s6.trans (s17 _)))))))).trans k8
    have cs : r = 0 ∨ r = 1 ∨ r = 2 ∨ r = 3 ∨ r = 4 ∨ r = 5 ∨ r = 6 ∨ r = 7 ∨ r = 8 ∨ r = 9 ∨ r = 10 ∨ r = 11 := by omega
    rcases cs with rfl | rfl | rfl | rfl | rfl | rfl | rfl | rfl | rfl | rfl | rfl | rfl
    · exact ⟨p7, _, _, _, rfl, rfl, SqL.of f7, rfl, k _ _ H8 .non (show Small _ by unfold Small; decide +kernel) hb8 kk⟩
    · exact ⟨p7, _, _, _, rfl, rfl, SqL.of f7, rfl, k _ _ H8 (.bl true) (show Small _ by unfold Small; decide +kernel) hb8 kk⟩
    · exact ⟨p7, _, _, _, rfl, rfl, SqL.of f7, rfl, k _ _ H8 (.int 0) (show Small _ by unfold Small; decide +kernel) hb8 kk⟩
    · exact ⟨p7, _, _, _, rfl, rfl, SqL.of f7, rfl, k _ _ H8 (.int (-1)) (show Small _ by unfold Small; decide +kernel) hb8 kk⟩
    · exact ⟨p7, _, _, _, rfl, rfl, SqL.of f7, rfl, k _ _ H8 (.int (10 ^ (30 : Int).toNat)) (show Small _ by unfold Small; decide +kernel) hb8 kk⟩
    · exact ⟨p7, _, _, _, rfl, rfl, SqL.of f7, rfl, k _ _ H8 (.str "") (show Small _ by unfold Small; decide +kernel) hb8 kk⟩
    · exact ⟨p7, _, _, _, rfl, rfl, SqL.of f7, rfl, k _ _ H8 (.str "field") (show Small _ by unfold Small; decide +kernel) hb8 kk⟩
    · exact ⟨p7, _, _, _, rfl, rfl, SqL.of f7, rfl, k _ _ H8 (.tup f1 .nil) (show Small _ by unfold Small; decide +kernel) hb8 kk⟩
    · exact ⟨p7, _, _, _, rfl, rfl, SqL.of f7, rfl, k _ _ H8 (.tup f2 (.cons (.str "a") (.cons (.int 1) .nil))) (show Small _ by unfold Small; decide +kernel) hb8 kk⟩
    · exact ⟨p7, _, _, _, rfl, rfl, SqL.of f7, rfl, k _ _ H8 (.lst f3 .nil) (show Small _ by unfold Small; decide +kernel) hb8 kk⟩
    · exact ⟨p7, _, _, _, rfl, rfl, SqL.of f7, rfl, k _ _ H8 (.lst f4 (.cons .non .nil)) (show Small _ by unfold Small; decide +kernel) hb8 kk⟩
    · exact ⟨p7, _, _, _, rfl, rfl, SqL.of f7, rfl, k _ _ H8 (.tup f6 (.cons (.tup f5 .nil) (.cons (.str "b") .nil))) (show Small _ by unfold Small; decide +kernel) hb8 kk⟩
end
end K21
namespace K21
open PySem PySem.Spec PyProof.Rows L2 Vr VB VY VZ VV
/-! ### xs.count(b), all of xs and b bools -/
def eqb (b : Bool) (v : Value) : Bool := match v with
  | .bool c => c == b
  | _ => false
theorem eqb_count (b : Bool) : ∀ bs : List Bool, (bs.map Value.bool).countP (eqb b) = bs.count b
  | [] => rfl
  | c :: bs => by
    rw [List.map_cons, List.countP_cons, List.count_cons, eqb_count b bs] <;> rfl
section
variable {X : Cx}
def rCntB (K : PySem.W.Frag) : V → List V → Hp → VK → Prop := fun x xs H Q => ∃ (p : Addr) (bs : List Bool) (b : Bool), x = .ref p ∧ xs = [.bl b] ∧ SqL K H p (bs.map V.bl) ∧ Q (.int (bs.count b : Nat)) H
theorem mt_bcount : MtR X "list.count" (rCntB X.K) := by
  intro pins s σ H x xs v us Q I rx rxs h
  obtain ⟨p, bs, b, rfl, rfl, hs, q⟩ := h
  cases rx
  obtain ⟨u, rfl, ru⟩ := rxs.one
  cases (show u = Value.bool b from ru)
  obtain ⟨its, rv, ⟨⟨cls, dd, data, sl⟩, n, ho, hc, hdn, hd⟩, hlen⟩ := I.list hs
  simp only at hc hd
  subst hc hd
  have e := Vals.bls rv
  subst e
  refine call_meets PySem.F.slot_list_count ⟨_, ho, rfl⟩ PySem.F.entry_list_count (PySem.F.args_list_count_2 _ _)
    (SeqAt.list_countAt p (bs.map Value.bool).toArray n dd sl (.bool b) (eqb b)) ⟨ho, fun y hy => ?_, ?_⟩
  · obtain ⟨c, hc, rfl⟩ := List.mem_map.mp (show y ∈ bs.map Value.bool by simpa using hy)
    exact SeqAt.EqAt.bool_bool c b
  have ec : (bs.map Value.bool).toArray.toList.countP (eqb b) = bs.count b := eqb_count b bs
  refine ⟨.int (bs.count b : Nat), H, I.tok _, ⟨s.toks, ?_⟩, q⟩
  show Value.int (((bs.map Value.bool).toArray.toList.countP (eqb b) : Nat) : Int) s.toks = Value.int ((bs.count b : Nat) : Int) s.toks
  rw [ec]
end
/-! ### the classes of the module, in the order of the law's list -/
def nmOf : Fin 12 → Str
  | 0 => "NoBook" | 1 => "NoChange" | 2 => "NoClaim" | 3 => "NoClass" | 4 => "NoCommand" | 5 => "NoOutcome" | 6 => "NoPattern" | 7 => "NoRank" | 8 => "NoRow" | 9 => "NoText" | 10 => "NoTree" | 11 => "NothingToUndo"
def bOf : Fin 12 → String
  | 0 => "ValueError" | 1 => "ArithmeticError" | 2 => "ValueError" | 3 => "KeyError" | 4 => "TypeError" | 5 => "LookupError" | 6 => "ValueError" | 7 => "IndexError" | 8 => "ValueError" | 9 => "ValueError" | 10 => "ValueError" | 11 => "RuntimeError"
def bmOf : Fin 12 → List Value
  | 0 => veT | 1 => aeTail | 2 => veT | 3 => keTail | 4 => teTail | 5 => leTail | 6 => veT | 7 => ieTail | 8 => veT | 9 => veT | 10 => veT | 11 => reTail
def fOf : Fin 12 → Str
  | 0 => "position" | 1 => "change" | 2 => "claim" | 3 => "name" | 4 => "" | 5 => "outcome" | 6 => "pattern" | 7 => "rank" | 8 => "row" | 9 => "position" | 10 => "tree" | 11 => ""
/-- what the written part says of the class at C -/
structure Own (K : PySem.W.Frag) (mg : Str → Option Value) (i : Fin 12) (C : Addr) : Prop where
  m : mg (nmOf i) = some (.ref C)
  ec : ExcC K C
  xf : XfC K C
  cl : ∃ cd, PySem.W.clsIn K C = some cd ∧ cd.mro = .ref C :: bmOf i ∧ cd.name = nmOf i
  ty : PySem.W.typeIn K (.ref C) = some (.type "type")
/-- one with a field -/
structure OwnF (P : Program) (K : PySem.W.Frag) (mg : Str → Option Value) (i : Fin 12) (C : Addr) : Prop where
  tx : ∃ (fI : Addr) (qual lit : Str) (ini newId : String), TxtF P K mg C fI qual (fOf i) lit (bOf i) ini newId (bmOf i) ∧ Base (bOf i) ini newId (bmOf i)
/-- one without -/
structure Own0 (P : Program) (K : PySem.W.Frag) (mg : Str → Option Value) (i : Fin 12) (C : Addr) : Prop where
  tx : ∃ (fI : Addr) (qual : Str) (ini newId : String), Txt0 P K mg C fI qual (bOf i) ini newId (bmOf i) ∧ Base (bOf i) ini newId (bmOf i)
structure Mod12 (P : Program) (K : PySem.W.Frag) (mg : Str → Option Value) (c : Fin 12 → Addr) : Prop where
  own : ∀ i, Own K mg i (c i)
  fld : ∀ i, i ≠ 4 → i ≠ 11 → OwnF P K mg i (c i)
  non : ∀ i, i = 4 ∨ i = 11 → Own0 P K mg i (c i)
theorem bm_noRef (D : Addr) (i : Fin 12) : (bmOf i).contains (.ref D) = false := by
  have e : ∀ l : List String, (l.map Value.type).contains (Value.ref D) = false := by
    intro l
    induction l with
    | nil => rfl
    | cons x l ih =>
      rw [List.map_cons, List.contains_cons, ih]
      rfl
  match i with
  | 0 => exact e ["ValueError", "Exception", "BaseException", "object"]
  | 1 => exact e ["ArithmeticError", "Exception", "BaseException", "object"]
  | 2 => exact e ["ValueError", "Exception", "BaseException", "object"]
  | 3 => exact e ["KeyError", "LookupError", "Exception", "BaseException", "object"]
  | 4 => exact e ["TypeError", "Exception", "BaseException", "object"]
  | 5 => exact e ["LookupError", "Exception", "BaseException", "object"]
  | 6 => exact e ["ValueError", "Exception", "BaseException", "object"]
  | 7 => exact e ["IndexError", "LookupError", "Exception", "BaseException", "object"]
  | 8 => exact e ["ValueError", "Exception", "BaseException", "object"]
  | 9 => exact e ["ValueError", "Exception", "BaseException", "object"]
  | 10 => exact e ["ValueError", "Exception", "BaseException", "object"]
  | 11 => exact e ["RuntimeError", "Exception", "BaseException", "object"]
theorem nm_inj : ∀ i j : Fin 12, nmOf i = nmOf j → i = j := by decide +kernel
section
open PySem.W
variable {P : Program} {K : PySem.W.Frag} {mg : Str → Option Value} {c : Fin 12 → Addr}
theorem Own.mro {i : Fin 12} {C : Addr} (T : Own K mg i C) (b : Value) : mroIn K C b = some ((Value.ref C :: bmOf i).contains b) := by
  obtain ⟨cd, h1, h2, _⟩ := T.cl
  unfold mroIn
  rw [h1, Option.bind_some, h2]
  rfl
theorem Own.kit {i j : Fin 12} {C D : Addr} (T : Own K mg i C) (U : Own K mg j D) : kitOne K (.ref C) (.ref D) = some (decide (i = j)) := by
  by_cases e : C = D
  · subst e
    obtain ⟨cd, h1, _, h2⟩ := T.cl
    obtain ⟨cd', h3, _, h4⟩ := U.cl
    have e2 := h1.symm.trans h3
    cases e2
    have e3 := nm_inj i j (h2.symm.trans h4)
    subst e3
    unfold kitOne
    simp
  · have ne : i ≠ j := fun z => e (by
      subst z
      have z := T.m.symm.trans U.m
      cases z
      rfl)
    have e1 : ((Value.ref C) == .ref D) = false := by simp [e]
    have e2 : ((clsIn K D).isSome && typeIn K (.ref D) == some (.type "type")) = true := by
      obtain ⟨cd, h1, _⟩ := U.cl
      rw [h1, U.ty] <;> rfl
    unfold kitOne kitCls
    rw [e1, if_neg Bool.false_ne_true]
    dsimp only
    rw [if_pos e2]
    show mroIn K C _ = _
    rw [T.mro, List.contains_cons, bm_noRef]
    have e3 : ((Value.ref D) == .ref C) = false := by simp [Ne.symm e]
    rw [e3]
    simp [ne]
theorem Own.kitT {i : Fin 12} {C : Addr} (T : Own K mg i C) {B : String} (hB : kitMeta B = true) : kitOne K (.ref C) (.type B) = some ((bmOf i).contains (.type B)) := by
  have e1 : ((Value.ref C) == .type B) = false := rfl
  unfold kitOne kitCls
  rw [e1, if_neg Bool.false_ne_true]
  dsimp only
  rw [if_pos hB]
  show mroIn K C _ = _
  rw [T.mro, List.contains_cons]
  rfl
end
end K21
namespace K21
open PySem PySem.Spec PyProof.Rows L2 Vr VB VY VZ VV
abbrev sOne : Stmt := top 17
theorem _root_.VV.Held.same {H H' : Hp} {a C : Addr} (h : Held H a C) (k : Same H H') : Held H' a C := by
  obtain ⟨od, e, d⟩ := h
  refine ⟨od, k _ _ e, fun dd z => ?_⟩
  obtain ⟨fs, q⟩ := d dd z
  exact ⟨fs, k _ _ q⟩
def spOne (c : Fin 12 → Addr) : Sp := fun vs H Q _ => ∃ (a : Addr) (i : Fin 12), vs = [.ref a] ∧ Held H a (c i) ∧ ∀ H', Same H H' → Q (.int 1) H'
section
variable {P : Program} {w : World} {K : PySem.W.Frag} {mg : Str → Option Value} {base : Heap} {c : Fin 12 → Addr}
abbrev nOne : List Str := ["_law_error", "_law_found"]
theorem scOne : FnScope nOne ["_law_error"] (defScope sOne) := ⟨rfl, rfl, rfl, by decide +kernel, rfl, by decide +kernel, by decide +kernel⟩
theorem count_one : ∀ i : Fin 12, [decide (i = 0), decide (i = 1), decide (i = 2), decide (i = 3), decide (i = 4), decide (i = 5), decide (i = 6), decide (i = 7), decide (i = 8), decide (i = 9), decide (i = 10), decide (i = 11)].count true = 1 := by decide +kernel
theorem ok_one {f : Addr} {fd : FuncData} (F : Fun K "_law_is_one_of" "_law_is_one_of" sOne f fd) (M : Mod12 P K mg c) (gIsi : mg "isinstance" = none) : FnOk P w K mg base CX0 1 f fd ["_law_error"] (spOne c) := by
  refine F.ok scOne (fun vs H Q E h => ?_) (fun cdv A outer s H vs Q E hr h => ?_)
  · obtain ⟨a, i, rfl, _⟩ := h
    rfl
  · obtain ⟨a, i, rfl, hh, k⟩ := h
    refine ⟨_, (pss_cons (ps_set (i := 1) scOne.nd rfl (Or.inl rfl) (pe_lst (pa_cons (pe_callB (id := "isinstance") (r := rIsV K) call_isV (by rfl) gIsi (by decide +kernel) (pa_cons (pv 0) (pa_cons (pe_glob rfl (M.own 0).m (v := .ref (c 0)) rfl) pa_nil))) (pa_cons (pe_callB (id := "isinstance") (r := rIsV K) call_isV (by rfl) gIsi (by decide +kernel) (pa_cons (pv 0) (pa_cons (pe_glob rfl (M.own 1).m (v := .ref (c 1)) rfl) pa_nil))) (pa_cons (pe_callB (id := "isinstance") (r := rIsV K) call_isV (by rfl) gIsi (by decide +kernel) (pa_cons (pv 0) (pa_cons (pe_glob rfl (M.own 2).m (v := .ref (c 2)) rfl) pa_nil))) pa_nil)))))
      (pss_cons (ps_set (i := 1) scOne.nd rfl (Or.inl rfl) (pe_op op_cat (pv 1) (pe_lst (pa_cons (pe_callB (id := "isinstance") (r := rIsV K) call_isV (by rfl) gIsi (by decide +kernel) (pa_cons (pv 0) (pa_cons (pe_glob rfl (M.own 3).m (v := .ref (c 3)) rfl) pa_nil))) (pa_cons (pe_callB (id := "isinstance") (r := rIsV K) call_isV (by rfl) gIsi (by decide +kernel) (pa_cons (pv 0) (pa_cons (pe_glob rfl (M.own 4).m (v := .ref (c 4)) rfl) pa_nil))) (pa_cons (pe_callB (id := "isinstance") (r := rIsV K) call_isV (by rfl) gIsi (by decide +kernel) (pa_cons (pv 0) (pa_cons (pe_glob rfl (M.own 5).m (v := .ref (c 5)) rfl) pa_nil))) pa_nil))))))
      (pss_cons (ps_set (i := 1) scOne.nd rfl (Or.inl rfl) (pe_op op_cat (pv 1) (pe_lst (pa_cons (pe_callB (id := "isinstance") (r := rIsV K) call_isV (by rfl) gIsi (by decide +kernel) (pa_cons (pv 0) (pa_cons (pe_glob rfl (M.own 6).m (v := .ref (c 6)) rfl) pa_nil))) (pa_cons (pe_callB (id := "isinstance") (r := rIsV K) call_isV (by rfl) gIsi (by decide +kernel) (pa_cons (pv 0) (pa_cons (pe_glob rfl (M.own 7).m (v := .ref (c 7)) rfl) pa_nil))) (pa_cons (pe_callB (id := "isinstance") (r := rIsV K) call_isV (by rfl) gIsi (by decide +kernel) (pa_cons (pv 0) (pa_cons (pe_glob rfl (M.own 8).m (v := .ref (c 8)) rfl) pa_nil))) pa_nil))))))
      (pss_cons (ps_set (i := 1) scOne.nd rfl (Or.inl rfl) (pe_op op_cat (pv 1) (pe_lst (pa_cons (pe_callB (id := "isinstance") (r := rIsV K) call_isV (by rfl) gIsi (by decide +kernel) (pa_cons (pv 0) (pa_cons (pe_glob rfl (M.own 9).m (v := .ref (c 9)) rfl) pa_nil))) (pa_cons (pe_callB (id := "isinstance") (r := rIsV K) call_isV (by rfl) gIsi (by decide +kernel) (pa_cons (pv 0) (pa_cons (pe_glob rfl (M.own 10).m (v := .ref (c 10)) rfl) pa_nil))) (pa_cons (pe_callB (id := "isinstance") (r := rIsV K) call_isV (by rfl) gIsi (by decide +kernel) (pa_cons (pv 0) (pa_cons (pe_glob rfl (M.own 11).m (v := .ref (c 11)) rfl) pa_nil))) pa_nil))))))
      (pss_one (ps_ret (pe_bm PySem.F.plainAttrs_list PySem.F.slot_list_count PySem.F.type_list_count mt_bcount (pv 1) (pa_cons pe_bl pa_nil)))))))), ?_⟩
    refine ⟨_, rfl, a, c i, .ref (c 0), _, _, rfl, hh, (M.own i).ec, ClsV.own _, (M.own i).kit (M.own 0), _, rfl, a, c i, .ref (c 1), _, _, rfl, hh, (M.own i).ec, ClsV.own _, (M.own i).kit (M.own 1), _, rfl, a, c i, .ref (c 2), _, _, rfl, hh, (M.own i).ec, ClsV.own _, (M.own i).kit (M.own 2), (by show 3 ≤ sizeLine; decide), fun p1 h1 => ?_⟩
    have s1 := Same.new (o := .lst [.bl (decide (i = 0)), .bl (decide (i = 1)), .bl (decide (i = 2))]) h1
    have g1 := upd_same (H := H) (a := p1) (o := .lst [.bl (decide (i = 0)), .bl (decide (i = 1)), .bl (decide (i = 2))])
    generalize upd H p1 (.lst [.bl (decide (i = 0)), .bl (decide (i = 1)), .bl (decide (i = 2))]) = H1 at *
    have hh1 := hh.same s1
    refine ⟨_, rfl, _, rfl, a, c i, .ref (c 3), _, _, rfl, hh1, (M.own i).ec, ClsV.own _, (M.own i).kit (M.own 3), _, rfl, a, c i, .ref (c 4), _, _, rfl, hh1, (M.own i).ec, ClsV.own _, (M.own i).kit (M.own 4), _, rfl, a, c i, .ref (c 5), _, _, rfl, hh1, (M.own i).ec, ClsV.own _, (M.own i).kit (M.own 5), (by show 3 ≤ sizeLine; decide), fun q0 e0 => ?_⟩
    have s2 := Same.new (o := .lst [.bl (decide (i = 3)), .bl (decide (i = 4)), .bl (decide (i = 5))]) e0
    have g2 := upd_same (H := H1) (a := q0) (o := .lst [.bl (decide (i = 3)), .bl (decide (i = 4)), .bl (decide (i = 5))])
    generalize upd H1 q0 (.lst [.bl (decide (i = 3)), .bl (decide (i = 4)), .bl (decide (i = 5))]) = H2 at *
    refine ⟨p1, q0, _, _, rfl, rfl, s2 _ _ g1, g2, (by show 6 ≤ sizeLine; decide), fun r0 f0 => ?_⟩
    have t2 := s1.trans s2
    have s3 := Same.new (o := .lst ([.bl (decide (i = 0)), .bl (decide (i = 1)), .bl (decide (i = 2))] ++ [.bl (decide (i = 3)), .bl (decide (i = 4)), .bl (decide (i = 5))])) f0
    have g3 := upd_same (H := H2) (a := r0) (o := .lst ([.bl (decide (i = 0)), .bl (decide (i = 1)), .bl (decide (i = 2))] ++ [.bl (decide (i = 3)), .bl (decide (i = 4)), .bl (decide (i = 5))]))
    generalize upd H2 r0 (.lst ([.bl (decide (i = 0)), .bl (decide (i = 1)), .bl (decide (i = 2))] ++ [.bl (decide (i = 3)), .bl (decide (i = 4)), .bl (decide (i = 5))])) = H3 at *
    have t3 := t2.trans s3
    have hh3 := hh.same t3
    refine ⟨_, rfl, _, rfl, a, c i, .ref (c 6), _, _, rfl, hh3, (M.own i).ec, ClsV.own _, (M.own i).kit (M.own 6), _, rfl, a, c i, .ref (c 7), _, _, rfl, hh3, (M.own i).ec, ClsV.own _, (M.own i).kit (M.own 7), _, rfl, a, c i, .ref (c 8), _, _, rfl, hh3, (M.own i).ec, ClsV.own _, (M.own i).kit (M.own 8), (by show 3 ≤ sizeLine; decide), fun q1 e1 => ?_⟩
    have s4 := Same.new (o := .lst [.bl (decide (i = 6)), .bl (decide (i = 7)), .bl (decide (i = 8))]) e1
    have g4 := upd_same (H := H3) (a := q1) (o := .lst [.bl (decide (i = 6)), .bl (decide (i = 7)), .bl (decide (i = 8))])
    generalize upd H3 q1 (.lst [.bl (decide (i = 6)), .bl (decide (i = 7)), .bl (decide (i = 8))]) = H4 at *
    refine ⟨r0, q1, _, _, rfl, rfl, s4 _ _ g3, g4, (by show 9 ≤ sizeLine; decide), fun r1 f1 => ?_⟩
    have t4 := t3.trans s4
    have s5 := Same.new (o := .lst (([.bl (decide (i = 0)), .bl (decide (i = 1)), .bl (decide (i = 2))] ++ [.bl (decide (i = 3)), .bl (decide (i = 4)), .bl (decide (i = 5))]) ++ [.bl (decide (i = 6)), .bl (decide (i = 7)), .bl (decide (i = 8))])) f1
    have g5 := upd_same (H := H4) (a := r1) (o := .lst (([.bl (decide (i = 0)), .bl (decide (i = 1)), .bl (decide (i = 2))] ++ [.bl (decide (i = 3)), .bl (decide (i = 4)), .bl (decide (i = 5))]) ++ [.bl (decide (i = 6)), .bl (decide (i = 7)), .bl (decide (i = 8))]))
    generalize upd H4 r1 (.lst (([.bl (decide (i = 0)), .bl (decide (i = 1)), .bl (decide (i = 2))] ++ [.bl (decide (i = 3)), .bl (decide (i = 4)), .bl (decide (i = 5))]) ++ [.bl (decide (i = 6)), .bl (decide (i = 7)), .bl (decide (i = 8))])) = H5 at *
    have t5 := t4.trans s5
    have hh5 := hh.same t5
    refine ⟨_, rfl, _, rfl, a, c i, .ref (c 9), _, _, rfl, hh5, (M.own i).ec, ClsV.own _, (M.own i).kit (M.own 9), _, rfl, a, c i, .ref (c 10), _, _, rfl, hh5, (M.own i).ec, ClsV.own _, (M.own i).kit (M.own 10), _, rfl, a, c i, .ref (c 11), _, _, rfl, hh5, (M.own i).ec, ClsV.own _, (M.own i).kit (M.own 11), (by show 3 ≤ sizeLine; decide), fun q2 e2 => ?_⟩
    have s6 := Same.new (o := .lst [.bl (decide (i = 9)), .bl (decide (i = 10)), .bl (decide (i = 11))]) e2
    have g6 := upd_same (H := H5) (a := q2) (o := .lst [.bl (decide (i = 9)), .bl (decide (i = 10)), .bl (decide (i = 11))])
    generalize upd H5 q2 (.lst [.bl (decide (i = 9)), .bl (decide (i = 10)), .bl (decide (i = 11))]) = H6 at *
    refine ⟨r1, q2, _, _, rfl, rfl, s6 _ _ g5, g6, (by show 12 ≤ sizeLine; decide), fun r2 f2 => ?_⟩
    have t6 := t5.trans s6
    have s7 := Same.new (o := .lst ((([.bl (decide (i = 0)), .bl (decide (i = 1)), .bl (decide (i = 2))] ++ [.bl (decide (i = 3)), .bl (decide (i = 4)), .bl (decide (i = 5))]) ++ [.bl (decide (i = 6)), .bl (decide (i = 7)), .bl (decide (i = 8))]) ++ [.bl (decide (i = 9)), .bl (decide (i = 10)), .bl (decide (i = 11))])) f2
    have g7 := upd_same (H := H6) (a := r2) (o := .lst ((([.bl (decide (i = 0)), .bl (decide (i = 1)), .bl (decide (i = 2))] ++ [.bl (decide (i = 3)), .bl (decide (i = 4)), .bl (decide (i = 5))]) ++ [.bl (decide (i = 6)), .bl (decide (i = 7)), .bl (decide (i = 8))]) ++ [.bl (decide (i = 9)), .bl (decide (i = 10)), .bl (decide (i = 11))]))
    generalize upd H6 r2 (.lst ((([.bl (decide (i = 0)), .bl (decide (i = 1)), .bl (decide (i = 2))] ++ [.bl (decide (i = 3)), .bl (decide (i = 4)), .bl (decide (i = 5))]) ++ [.bl (decide (i = 6)), .bl (decide (i = 7)), .bl (decide (i = 8))]) ++ [.bl (decide (i = 9)), .bl (decide (i = 10)), .bl (decide (i = 11))])) = H7 at *
    have t7 := t6.trans s7
    have hh7 := hh.same t7
    refine ⟨_, rfl, Or.inl ⟨rfl, _, SqL.of g7⟩, r2, [decide (i = 0), decide (i = 1), decide (i = 2), decide (i = 3), decide (i = 4), decide (i = 5), decide (i = 6), decide (i = 7), decide (i = 8), decide (i = 9), decide (i = 10), decide (i = 11)], true, rfl, rfl, SqL.of g7, ?_⟩
    rw [count_one]
    exact k _ t7
end
end K21
namespace K21
open PySem PySem.Spec PyProof.Rows L2 Vr VB VY VZ VV
theorem fun_okG {P : Program} {w : World} {K : PySem.W.Frag} {mg : Str → Option Value} {base : Heap} {x qual : Str} {st : Stmt} {f : Addr} {fd : FuncData} {N ps : List Str} {k : Nat} {sp : Sp} (F : Fun K x qual st f fd)
    (S : FnScope N ps (defScope st)) (len : ∀ vs H Q E, sp vs H Q E → vs.length = ps.length)
    (hbody : ∀ (cdv : Value) (A : Around) (outer : List Env) (s : Shared) (H : Hp) (vs : List V) (Q : VK) (E : XK), A.guards = some [] →
      Room k (A.deeper (envOfC qual (defScope st) s.heap.objs.size f cdv)) → sp vs H Q E →
      ∃ t, PSs (cxOf CX0 P w K mg base N qual (defScope st) f cdv A outer s H E).nox (defBody st) t ∧ t { nx := fun _ H' => Q .non H', rt := Q } (start N vs) H) : GOk P w K mg base CX0 (k + 1) f fd ps sp := by
  obtain ⟨oc, od, kV, doc, pm, an, cdv, ct, osl, rfl, lk, hcd⟩ := F.ex
  refine gok_of lk hcd S len fun A outer s H vs Q E hg hr hsp => ?_
  obtain ⟨t, h, q⟩ := hbody cdv A outer s H vs Q E hg hr hsp
  exact ⟨t, h.nox, q⟩
theorem Same.thenBut {H H1 H2 : Hp} {b : Addr} (hb : H b = none) (k1 : Same H H1) (k2 : But b H1 H2) : Same H H2 := fun c o e => k2 c o (k1 c o e) (ne_of_none e hb)
/-- an exception at e with its field -/
def Ex (H : Hp) (e C : Addr) (f : Str) (v : V) : Prop := ∃ d, H e = some (ExV C (some d) e) ∧ H d = some (.xd [(f, v)])
theorem Ex.same {H H' : Hp} {e C : Addr} {f : Str} {v : V} (h : Ex H e C f v) (k : Same H H') : Ex H' e C f v := by
  obtain ⟨d, h1, h2⟩ := h
  exact ⟨d, k _ _ h1, k _ _ h2⟩
theorem Ex.held {H : Hp} {e C : Addr} {f : Str} {v : V} (h : Ex H e C f v) : Held H e C := by
  obtain ⟨d, h1, h2⟩ := h
  refine ⟨_, h1, fun dd z => ?_⟩
  cases z
  exact ⟨_, h2⟩
theorem newV_of {H : Hp} {C : Addr} {f : Str} {v : V} {Q : VK} (h : ∀ e H1, Same H H1 → Ex H1 e C f v → Q (.ref e) H1) : newV C f v H Q := by
  intro e d he hd ne
  have he2 : (upd H d (.xd [(f, v)])) e = none := by
    rw [upd_ne ne]
    exact he
  refine h e _ ((Same.new hd).trans (Same.new he2)) ⟨d, upd_same, ?_⟩
  rw [upd_ne (Ne.symm ne)]
  exact upd_same
theorem new0_of {H : Hp} {C : Addr} {Q : VK} (h : ∀ e H1, Same H H1 → Held H1 e C → Q (.ref e) H1) : ∀ e, H e = none → Q (.ref e) (upd H e (ExV C none e)) :=
  fun e he => h e _ (Same.new he) ⟨none, upd_same, fun dd z => by cases z⟩
theorem lk_one (f : Str) (v : V) : [(f, v)].lookup f = some v := by simp [List.lookup]
theorem datAll_rep {H : Hp} {v : V} {d : PyData} (h : DatAt H v d) : ∀ n, DatAll H (List.replicate n v) (List.replicate n d)
  | 0 => .nil
  | n + 1 => .cons h (datAll_rep h n)
theorem all_rep : ∀ n, (List.replicate n true).all id = true
  | 0 => rfl
  | n + 1 => by rw [List.replicate_succ, List.all_cons, all_rep n] <;> rfl
structure OkN (n : Nat) (d : PyData) : Prop where
  sh : SeqAt.shaped (.list (List.replicate n d)) = true
  sw : PyData.showable (.list (List.replicate n d)) = true
  ln : (PyData.shown (.list (List.replicate n d))).length ≤ sizeLine
theorem OkN.of {n : Nat} {d : PyData} (h : okN n d = true) : OkN n d := by
  obtain ⟨h1, h⟩ := Bool.and_eq_true_iff.mp h
  obtain ⟨h2, h3⟩ := Bool.and_eq_true_iff.mp h
  exact ⟨h1, h2, Nat.le_of_lt (Nat.lt_of_le_of_lt (of_decide_eq_true h3) (by rw [sizeLine_eq]; omega))⟩
theorem Small.n4 {d : PyData} (h : Small d) : OkN 4 d := .of (Bool.and_eq_true_iff.mp h).1
theorem Small.n6 {d : PyData} (h : Small d) : OkN 6 d := .of (Bool.and_eq_true_iff.mp (Bool.and_eq_true_iff.mp h).2).1
theorem Small.n10 {d : PyData} (h : Small d) : OkN 10 d := .of (Bool.and_eq_true_iff.mp (Bool.and_eq_true_iff.mp h).2).2
theorem OwnF.no {P : Program} {K : PySem.W.Frag} {mg : Str → Option Value} {i : Fin 12} {C : Addr} (T : OwnF P K mg i C) : PySem.W.findIn K (.ref C) (fOf i) = some none := by
  obtain ⟨fI, qual, lit, ini, newId, T, B⟩ := T.tx
  exact T.noN
section
variable {X : Cx} {i : Fin 12} {C : Addr} {f n : Str} {k : Nat} {p pos : Pos}
theorem pe_mkF {a : Expr} {ta : TA} (T : OwnF X.prog X.K X.mg i C) (hf : fOf i = f) (hm : X.mg n = some (.ref C)) (hr : Room k X.A) (ha : PA X [a] ta) (hg : Gl X n) (hdb : (n == ("__debug__" : Str)) = false := by decide)
    (he : starEach (a :: []) X.env = (false, eval a X.env) :: starEach [] X.env := by rfl) (hpl : (backTo pos (starEach [] X.env)).any (·.1) = false := by rfl) : PE X (.Call (.Name n p) [a] [] pos) (tMkV C f ta) := by
  subst hf
  obtain ⟨fI, qual, lit, ini, newId, T, B⟩ := T.tx
  exact pe_mkV T B hm hr ha hg hdb he hpl
theorem pe_mkN {kws : List Keyword} {tk : TA} (T : OwnF X.prog X.K X.mg i C) (hf : fOf i = f) (hm : X.mg n = some (.ref C)) (hr : Room k X.A) (hkw : PK X kws tk) (hg : Gl X n)
    (hall : (backToKw pos (keywordEach kws X.env)).all (·.1.isSome) = true := by rfl) (hks : (backToKw pos (keywordEach kws X.env)).filterMap (·.1) = [f] := by rfl) (hdb : (n == ("__debug__" : Str)) = false := by decide)
    (hpl : ((backTo pos (starEach [] X.env)).any (·.1) || (backToKw pos (keywordEach kws X.env)).any (·.1.isNone)) = false := by rfl) : PE X (.Call (.Name n p) [] kws pos) (tMkK C f tk) := by
  subst hf
  obtain ⟨fI, qual, lit, ini, newId, T, B⟩ := T.tx
  exact pe_mkK T B hm hr hkw hg hall hks hdb hpl
theorem pe_mkZ (T : Own0 X.prog X.K X.mg i C) (hm : X.mg n = some (.ref C)) (hr : Room k X.A) (hg : Gl X n) (hdb : (n == ("__debug__" : Str)) = false := by decide)
    (hall : (backToKw pos (keywordEach [] X.env)).all (·.1.isSome) = true := by rfl) (hks : (backToKw pos (keywordEach [] X.env)).filterMap (·.1) = [] := by rfl)
    (hpl : ((backTo pos (starEach [] X.env)).any (·.1) || (backToKw pos (keywordEach [] X.env)).any (·.1.isNone)) = false := by rfl) : PE X (.Call (.Name n p) [] [] pos) (tMk0 C) := by
  obtain ⟨fI, qual, ini, newId, T, B⟩ := T.tx
  exact pe_mk0 T B hm hr hg hdb hall hks hpl
end
def spRight : Sp := fun vs H Q _ => ∃ (v : V) (d : PyData), vs = [v] ∧ DatAt H v d ∧ Small d ∧ ∀ H', Same H H' → Q (.bl true) H'
end K21
namespace K21
open PySem PySem.Spec PyProof.Rows L2 Vr VB VY VZ VV
abbrev sVals : Stmt := top 18
/-- a list all of exceptions of the module -/
def AllX (c : Fin 12 → Addr) (H : Hp) (ok : Fin 12 → Bool) (us : List V) : Prop := ∀ x ∈ us, ∃ (a : Addr) (j : Fin 12), x = .ref a ∧ Held H a (c j) ∧ ok j = true
theorem AllX.nil {c : Fin 12 → Addr} {H : Hp} {ok : Fin 12 → Bool} : AllX c H ok [] := fun x hx => by cases hx
theorem AllX.cons {c : Fin 12 → Addr} {H : Hp} {ok : Fin 12 → Bool} {a : Addr} {us : List V} (j : Fin 12) (h : Held H a (c j)) (e : ok j = true) (r : AllX c H ok us) : AllX c H ok (.ref a :: us) := fun x hx => by
  rcases List.mem_cons.mp hx with rfl | hx
  · exact ⟨a, j, rfl, h, e⟩
  · exact r x hx
def isVE (j : Fin 12) : Bool := (bmOf j).contains (.type "ValueError")
def anyX (j : Fin 12) : Bool := true
section
variable {P : Program} {w : World} {K : PySem.W.Frag} {mg : Str → Option Value} {base : Heap} {c : Fin 12 → Addr}
abbrev nVals : List Str := ["_law_one", "_law_made", "_law_fields", "_law_error"]
theorem scVals : FnScope nVals ["_law_one"] (defScope sVals) := ⟨rfl, rfl, rfl, by decide +kernel, rfl, by decide +kernel, by decide +kernel⟩
theorem ok_vals {f fO : Addr} {fd fdO : FuncData} (F : Fun K "_law_values_right" "_law_values_right" sVals f fd) (M : Mod12 P K mg c) (G1 : FnOk P w K mg base CX0 1 fO fdO ["_law_error"] (spOne c))
    (bO : Binds K fdO ["_law_error"] []) (mO : mg "_law_is_one_of" = some (.ref fO)) (kO : PySem.W.keepIn K (.ref fO) = true) (gIsi : mg "isinstance" = none) (gAll : mg "all" = none) (gRepr : mg "repr" = none) (gValueError : mg "ValueError" = none) :
    GOk P w K mg base CX0 2 f fd ["_law_one"] spRight := by
  refine fun_okG F scVals (fun vs H Q E h => ?_) (fun cdv A outer s H vs Q E hg hr h => ?_)
  · obtain ⟨v, d, rfl, _⟩ := h
    rfl
  · obtain ⟨v, d, rfl, hv, sm, k⟩ := h
    have r1 : Room 1 _ := hr
    have m0 : mg "NoBook" = some (.ref (c 0)) := (M.own 0).m
    have m2 : mg "NoClaim" = some (.ref (c 2)) := (M.own 2).m
    have m6 : mg "NoPattern" = some (.ref (c 6)) := (M.own 6).m
    have m8 : mg "NoRow" = some (.ref (c 8)) := (M.own 8).m
    have m9 : mg "NoText" = some (.ref (c 9)) := (M.own 9).m
    have m10 : mg "NoTree" = some (.ref (c 10)) := (M.own 10).m
    have no0 : PySem.W.findIn K (.ref (c 0)) "position" = some none := (M.fld 0 (by decide) (by decide)).no
    have no2 : PySem.W.findIn K (.ref (c 2)) "claim" = some none := (M.fld 2 (by decide) (by decide)).no
    have no6 : PySem.W.findIn K (.ref (c 6)) "pattern" = some none := (M.fld 6 (by decide) (by decide)).no
    have no8 : PySem.W.findIn K (.ref (c 8)) "row" = some none := (M.fld 8 (by decide) (by decide)).no
    have no9 : PySem.W.findIn K (.ref (c 9)) "position" = some none := (M.fld 9 (by decide) (by decide)).no
    have no10 : PySem.W.findIn K (.ref (c 10)) "tree" = some none := (M.fld 10 (by decide) (by decide)).no
    refine ⟨_, (pss_cons (ps_set (i := 1) scVals.nd rfl (Or.inl rfl) (pe_lst (pa_cons (pe_mkF (f := "position") (M.fld 0 (by decide) (by decide)) rfl m0 hr (pa_cons (pv 0) pa_nil) (by rfl)) (pa_cons (pe_mkF (f := "row") (M.fld 8 (by decide) (by decide)) rfl m8 hr (pa_cons (pv 0) pa_nil) (by rfl)) (pa_cons (pe_mkF (f := "tree") (M.fld 10 (by decide) (by decide)) rfl m10 hr (pa_cons (pv 0) pa_nil) (by rfl)) (pa_cons (pe_mkF (f := "pattern") (M.fld 6 (by decide) (by decide)) rfl m6 hr (pa_cons (pv 0) pa_nil) (by rfl)) (pa_cons (pe_mkF (f := "claim") (M.fld 2 (by decide) (by decide)) rfl m2 hr (pa_cons (pv 0) pa_nil) (by rfl)) (pa_cons (pe_mkF (f := "position") (M.fld 9 (by decide) (by decide)) rfl m9 hr (pa_cons (pv 0) pa_nil) (by rfl)) pa_nil))))))))
      (pss_cons (ps_if (pt_not (pt_val (pe_callB (cr_all rfl) (by rfl) gAll (by decide +kernel) (pa_cons (pe_lc (own := [("_law_error", 3)]) (g := gName 3) (tt := tYes) rfl scVals.nd (pi_list (pv 1)) (blkOk_by (N := nVals) (sc := defScope sVals) (by decide +kernel)) (fun _ _ _ _ _ => pg_name (i := 3) scVals.nd rfl (Or.inl rfl)) (fun _ _ _ _ _ => pts_nil) (fun _ _ _ _ _ => (pe_and (pe_callB (id := "isinstance") (r := rIsV K) call_isV (by rfl) gIsi (by decide +kernel) (pa_cons (pv 3) (pa_cons (pe_bltn (v := .ty "ValueError") (by rfl) gValueError (by decide +kernel) rfl) pa_nil))) (pe_one (pe_cmpR op_eq (pe_call G1 r1 (by rfl) mO kO bO .nil pass0 (pa_cons (pv 3) pa_nil)) pe_int (nomark _)))))) pa_nil)))) (pss_one (ps_ret pe_bl)) pss_nil)
      (pss_cons (ps_set (i := 2) scVals.nd rfl (Or.inl rfl) (pe_lst (pa_cons (pe_fldV (pe_ix ix_list (pv 1) pe_int (fun _ _ => rfl))) (pa_cons (pe_fldV (pe_ix ix_list (pv 1) pe_int (fun _ _ => rfl))) (pa_cons (pe_fldV (pe_ix ix_list (pv 1) pe_int (fun _ _ => rfl))) (pa_cons (pe_fldV (pe_ix ix_list (pv 1) pe_int (fun _ _ => rfl))) (pa_cons (pe_fldV (pe_ix ix_list (pv 1) pe_int (fun _ _ => rfl))) (pa_cons (pe_fldV (pe_ix ix_list (pv 1) pe_int (fun _ _ => rfl))) pa_nil))))))))
      (pss_one (ps_ret (pe_cmpR op_eq (pe_callB (call_reprD hg hr) (by rfl) gRepr (by decide +kernel) (pa_cons (pv 2) pa_nil)) (pe_callB (call_reprD hg hr) (by rfl) gRepr (by decide +kernel) (pa_cons (pe_op op_rep (pe_lst (pa_cons (pv 0) pa_nil)) pe_int) pa_nil)) (nomark _))))))), ?_⟩
    refine ⟨_, rfl, v, rfl, newV_of fun e0 H0 s0 x0 => ⟨_, rfl, v, rfl, newV_of fun e8 H1 s1 x8 => ⟨_, rfl, v, rfl, newV_of fun e10 H2 s2 x10 => ⟨_, rfl, v, rfl, newV_of fun e6 H3 s3 x6 => ⟨_, rfl, v, rfl, newV_of fun e2 H4 s4 x2 => ⟨_, rfl, v, rfl, newV_of fun e9 H5 s5 x9 => ⟨(by show 6 ≤ sizeLine; decide), fun p hp => ?_⟩⟩⟩⟩⟩⟩⟩
    have s6 := Same.new (o := .lst [.ref e0, .ref e8, .ref e10, .ref e6, .ref e2, .ref e9]) hp
    have gp := upd_same (H := H5) (a := p) (o := .lst [.ref e0, .ref e8, .ref e10, .ref e6, .ref e2, .ref e9])
    generalize upd H5 p (.lst [.ref e0, .ref e8, .ref e10, .ref e6, .ref e2, .ref e9]) = H6 at *
    have t6 := s6
    have t5 := s5.trans t6
    have t4 := s4.trans t5
    have t3 := s3.trans t4
    have t2 := s2.trans t3
    have t1 := s1.trans t2
    have t0 := s0.trans t1
    have x0 := x0.same t1
    have x8 := x8.same t2
    have x10 := x10.same t3
    have x6 := x6.same t4
    have x2 := x2.same t5
    have x9 := x9.same t6
    have hv := hv.same t0
    have hx : AllX c H6 isVE [.ref e0, .ref e8, .ref e10, .ref e6, .ref e2, .ref e9] := .cons 0 x0.held (by decide +kernel) (.cons 8 x8.held (by decide +kernel) (.cons 10 x10.held (by decide +kernel) (.cons 6 x6.held (by decide +kernel) (.cons 2 x2.held (by decide +kernel) (.cons 9 x9.held (by decide +kernel) (.nil))))))
    clear s0 s1 s2 s3 s4 s5 s6 t1 t2 t3 t4 t5 t6
    refine ⟨_, rfl, _, rfl, ⟨_, SqL.of gp⟩, fun D hD => ?_⟩
    refine lc_list (xs := [.ref e0, .ref e8, .ref e10, .ref e6, .ref e2, .ref e9]) (fun j H' => H' D = some (.lst ((List.replicate j true).map V.bl)) ∧ Same H6 H') ⟨upd_same, Same.new hD⟩ (fun j H' _ h => SqL.of (h.2 _ _ gp)) ?_ ?_
    · rintro j x H' hj ⟨n2, n4⟩
      have lj := (List.getElem?_eq_some_iff.mp hj).1
      obtain ⟨a, l, rfl, hh, ev⟩ := hx x (List.mem_of_getElem? hj)
      refine ⟨rfl, _, rfl, a, c l, .ty "ValueError", _, true, rfl, hh.same n4, (M.own l).ec, .ty _, by rw [(M.own l).kitT (by decide +kernel)]; exact congrArg some ev, _, rfl, ?_⟩
      refine ⟨_, rfl, a, l, rfl, hh.same n4, fun H'' n5 => ⟨rfl, _, n5 _ _ n2, ?_, ?_, Same.newer hD (n4.trans n5)⟩⟩
      · rw [List.length_map, List.length_replicate]
        exact Nat.lt_of_lt_of_le lj (by show 6 ≤ sizeLine; decide)
      · rw [upd_same, List.replicate_succ', List.map_append]
        rfl
    rintro H' ⟨n2, n4⟩
    refine ⟨D, _, rfl, SqL.of n2, _, rfl, ?_⟩
    rw [all_rep]
    refine iteF ?_
    have gp := n4 _ _ gp
    obtain ⟨d0, x0a, x0b⟩ := x0.same n4
    obtain ⟨d8, x8a, x8b⟩ := x8.same n4
    obtain ⟨d10, x10a, x10b⟩ := x10.same n4
    obtain ⟨d6, x6a, x6b⟩ := x6.same n4
    obtain ⟨d2, x2a, x2b⟩ := x2.same n4
    obtain ⟨d9, x9a, x9b⟩ := x9.same n4
    have hv := hv.same n4
    have t0 := t0.trans n4
    refine ⟨_, rfl, p, _, _, _, rfl, rfl, SqL.of gp, rfl, e0, c 0, d0, _, v, rfl, x0a, (M.own 0).xf, no0, x0b, lk_one _ _, _, rfl, p, _, _, _, rfl, rfl, SqL.of gp, rfl, e8, c 8, d8, _, v, rfl, x8a, (M.own 8).xf, no8, x8b, lk_one _ _, _, rfl, p, _, _, _, rfl, rfl, SqL.of gp, rfl, e10, c 10, d10, _, v, rfl, x10a, (M.own 10).xf, no10, x10b, lk_one _ _, _, rfl, p, _, _, _, rfl, rfl, SqL.of gp, rfl, e6, c 6, d6, _, v, rfl, x6a, (M.own 6).xf, no6, x6b, lk_one _ _, _, rfl, p, _, _, _, rfl, rfl, SqL.of gp, rfl, e2, c 2, d2, _, v, rfl, x2a, (M.own 2).xf, no2, x2b, lk_one _ _, _, rfl, p, _, _, _, rfl, rfl, SqL.of gp, rfl, e9, c 9, d9, _, v, rfl, x9a, (M.own 9).xf, no9, x9b, lk_one _ _, (by show 6 ≤ sizeLine; decide), fun q hq => ?_⟩
    have s7 := Same.new (o := .lst [v, v, v, v, v, v]) hq
    have gq := upd_same (H := H') (a := q) (o := .lst [v, v, v, v, v, v])
    generalize upd H' q (.lst [v, v, v, v, v, v]) = H7 at *
    have hv := hv.same s7
    have ok := sm.n6
    refine ⟨_, rfl, .ref q, .list (List.replicate 6 d), rfl, (DatAt.lst gq (datAll_rep hv 6)).dp, ok.sh, ok.sw, ok.ln, _, rfl, (by show 1 ≤ sizeLine; decide), fun r1 hr1 => ⟨r1, 6, [v], rfl, rfl, upd_same, by decide, by decide, (by show 6 ≤ sizeLine; decide), fun r2 hr2 => ?_⟩⟩
    have s8 := (Same.new (o := .lst [v]) hr1).trans (Same.new (o := .lst (List.replicate (6 : Int).toNat [v]).flatten) hr2)
    refine ⟨.ref r2, .list (List.replicate 6 d), rfl, (DatAt.lst upd_same (datAll_rep (hv.same s8) 6)).dp, ok.sh, ok.sw, ok.ln, rfl, ?_⟩
    rw [decide_eq_true rfl]
    exact k _ ((t0.trans s7).trans s8)
end
end K21
namespace K21
open PySem PySem.Spec PyProof.Rows L2 Vr VB VY VZ VV
abbrev sOth : Stmt := top 19
theorem Own.kitB {K : PySem.W.Frag} {mg : Str → Option Value} {i : Fin 12} {C : Addr} (T : Own K mg i C) {B : String} {b : Bool} (hB : PySem.W.kitMeta B = true) (e : (bmOf i).contains (.type B) = b) : PySem.W.kitOne K (.ref C) (.type B) = some b := by
  rw [T.kitT hB, e]
theorem held0 {H : Hp} {e C : Addr} : Held (upd H e (ExV C none e)) e C := ⟨none, upd_same, fun dd z => by cases z⟩
theorem mk_fld {H : Hp} {C : Addr} {f : Str} {v : V} {K : PySem.W.Frag} {Q : VK} (xf : XfC K C) (no : PySem.W.findIn K (.ref C) f = some none) (h : ∀ H1, Same H H1 → Q v H1) :
    newV C f v H fun x H1 => ∃ (a C dd : Addr) (fs : List (Str × V)) (v : V), x = .ref a ∧ H1 a = some (ExV C (some dd) a) ∧ XfC K C ∧ PySem.W.findIn K (.ref C) f = some none ∧ H1 dd = some (.xd fs) ∧ fs.lookup f = some v ∧ Q v H1 :=
  newV_of fun e H1 s x => by
    obtain ⟨d, a, b⟩ := x
    exact ⟨e, C, d, _, v, rfl, a, xf, no, b, lk_one _ _, h H1 s⟩
section
variable {P : Program} {w : World} {K : PySem.W.Frag} {mg : Str → Option Value} {base : Heap} {c : Fin 12 → Addr}
abbrev nOth : List Str := ["_law_one", "_law_made", "_law_under", "_law_error"]
theorem scOth : FnScope nOth ["_law_one"] (defScope sOth) := ⟨rfl, rfl, rfl, by decide +kernel, rfl, by decide +kernel, by decide +kernel⟩
theorem ok_oth {f fO : Addr} {fd fdO : FuncData} (F : Fun K "_law_others_right" "_law_others_right" sOth f fd) (M : Mod12 P K mg c) (G1 : FnOk P w K mg base CX0 1 fO fdO ["_law_error"] (spOne c))
    (bO : Binds K fdO ["_law_error"] []) (mO : mg "_law_is_one_of" = some (.ref fO)) (kO : PySem.W.keepIn K (.ref fO) = true) (gIsi : mg "isinstance" = none) (gAll : mg "all" = none) (gRepr : mg "repr" = none) (gKeyError : mg "KeyError" = none) (gLookupError : mg "LookupError" = none) (gIndexError : mg "IndexError" = none) (gArithmeticError : mg "ArithmeticError" = none) (gTypeError : mg "TypeError" = none) (gOverflowError : mg "OverflowError" = none) (gRuntimeError : mg "RuntimeError" = none) :
    GOk P w K mg base CX0 2 f fd ["_law_one"] spRight := by
  refine fun_okG F scOth (fun vs H Q E h => ?_) (fun cdv A outer s H vs Q E hg hr h => ?_)
  · obtain ⟨v, d, rfl, _⟩ := h
    rfl
  · obtain ⟨v, d, rfl, hv, sm, k⟩ := h
    have r1 : Room 1 _ := hr
    have m1 : mg "NoChange" = some (.ref (c 1)) := (M.own 1).m
    have m3 : mg "NoClass" = some (.ref (c 3)) := (M.own 3).m
    have m4 : mg "NoCommand" = some (.ref (c 4)) := (M.own 4).m
    have m5 : mg "NoOutcome" = some (.ref (c 5)) := (M.own 5).m
    have m7 : mg "NoRank" = some (.ref (c 7)) := (M.own 7).m
    have m11 : mg "NothingToUndo" = some (.ref (c 11)) := (M.own 11).m
    have no1 : PySem.W.findIn K (.ref (c 1)) "change" = some none := (M.fld 1 (by decide) (by decide)).no
    have no3 : PySem.W.findIn K (.ref (c 3)) "name" = some none := (M.fld 3 (by decide) (by decide)).no
    have no5 : PySem.W.findIn K (.ref (c 5)) "outcome" = some none := (M.fld 5 (by decide) (by decide)).no
    have no7 : PySem.W.findIn K (.ref (c 7)) "rank" = some none := (M.fld 7 (by decide) (by decide)).no
    refine ⟨_, (pss_cons (ps_set (i := 1) scOth.nd rfl (Or.inl rfl) (pe_lst (pa_cons (pe_mkF (f := "name") (M.fld 3 (by decide) (by decide)) rfl m3 hr (pa_cons (pv 0) pa_nil) (by rfl)) (pa_cons (pe_mkF (f := "outcome") (M.fld 5 (by decide) (by decide)) rfl m5 hr (pa_cons (pv 0) pa_nil) (by rfl)) (pa_cons (pe_mkF (f := "rank") (M.fld 7 (by decide) (by decide)) rfl m7 hr (pa_cons (pv 0) pa_nil) (by rfl)) (pa_cons (pe_mkF (f := "change") (M.fld 1 (by decide) (by decide)) rfl m1 hr (pa_cons (pv 0) pa_nil) (by rfl)) pa_nil))))))
      (pss_cons (ps_if (pt_not (pt_val (pe_callB (cr_all rfl) (by rfl) gAll (by decide +kernel) (pa_cons (pe_lc (own := [("_law_error", 3)]) (g := gName 3) (tt := tYes) rfl scOth.nd (pi_list (pe_op op_cat (pv 1) (pe_lst (pa_cons (pe_mkZ (M.non 4 (by decide)) m4 hr (by rfl)) (pa_cons (pe_mkZ (M.non 11 (by decide)) m11 hr (by rfl)) pa_nil))))) (blkOk_by (N := nOth) (sc := defScope sOth) (by decide +kernel)) (fun _ _ _ _ _ => pg_name (i := 3) scOth.nd rfl (Or.inl rfl)) (fun _ _ _ _ _ => pts_nil) (fun _ _ _ _ _ => (pe_cmpR op_eq (pe_call G1 r1 (by rfl) mO kO bO .nil pass0 (pa_cons (pv 3) pa_nil)) pe_int (nomark _)))) pa_nil)))) (pss_one (ps_ret pe_bl)) pss_nil)
      (pss_cons (ps_if (pt_cmpR op_ne (pe_callB (call_reprD hg hr) (by rfl) gRepr (by decide +kernel) (pa_cons (pe_lst (pa_cons (pe_fldV (pe_ix ix_list (pv 1) pe_int (fun _ _ => rfl))) (pa_cons (pe_fldV (pe_ix ix_list (pv 1) pe_int (fun _ _ => rfl))) (pa_cons (pe_fldV (pe_ix ix_list (pv 1) pe_int (fun _ _ => rfl))) (pa_cons (pe_fldV (pe_ix ix_list (pv 1) pe_int (fun _ _ => rfl))) pa_nil))))) pa_nil)) (pe_callB (call_reprD hg hr) (by rfl) gRepr (by decide +kernel) (pa_cons (pe_op op_rep (pe_lst (pa_cons (pv 0) pa_nil)) pe_int) pa_nil)) (nomark _)) (pss_one (ps_ret pe_bl)) pss_nil)
      (pss_cons (ps_set (i := 2) scOth.nd rfl (Or.inl rfl) (pe_lst (pa_cons (pe_callB (id := "isinstance") (r := rIsV K) call_isV (by rfl) gIsi (by decide +kernel) (pa_cons (pe_ix ix_list (pv 1) pe_int (fun _ _ => rfl)) (pa_cons (pe_bltn (v := .ty "KeyError") (by rfl) gKeyError (by decide +kernel) rfl) pa_nil))) (pa_cons (pe_callB (id := "isinstance") (r := rIsV K) call_isV (by rfl) gIsi (by decide +kernel) (pa_cons (pe_ix ix_list (pv 1) pe_int (fun _ _ => rfl)) (pa_cons (pe_bltn (v := .ty "LookupError") (by rfl) gLookupError (by decide +kernel) rfl) pa_nil))) (pa_cons (pe_callB (id := "isinstance") (r := rIsV K) call_isV (by rfl) gIsi (by decide +kernel) (pa_cons (pe_ix ix_list (pv 1) pe_int (fun _ _ => rfl)) (pa_cons (pe_bltn (v := .ty "IndexError") (by rfl) gIndexError (by decide +kernel) rfl) pa_nil))) pa_nil)))))
      (pss_cons (ps_set (i := 2) scOth.nd rfl (Or.inl rfl) (pe_op op_cat (pv 2) (pe_lst (pa_cons (pe_callB (id := "isinstance") (r := rIsV K) call_isV (by rfl) gIsi (by decide +kernel) (pa_cons (pe_ix ix_list (pv 1) pe_int (fun _ _ => rfl)) (pa_cons (pe_bltn (v := .ty "ArithmeticError") (by rfl) gArithmeticError (by decide +kernel) rfl) pa_nil))) (pa_cons (pe_callB (id := "isinstance") (r := rIsV K) call_isV (by rfl) gIsi (by decide +kernel) (pa_cons (pe_mkZ (M.non 4 (by decide)) m4 hr (by rfl)) (pa_cons (pe_bltn (v := .ty "TypeError") (by rfl) gTypeError (by decide +kernel) rfl) pa_nil))) pa_nil)))))
      (pss_cons (ps_if (PW.pt (pw_or (pt_val (pe_callB (id := "isinstance") (r := rIsVT K) call_isVT (by rfl) gIsi (by decide +kernel) (pa_cons (pe_ix ix_list (pv 1) pe_int (fun _ _ => rfl)) (pa_cons (pe_tup (pa_cons (pe_bltn (v := .ty "KeyError") (by rfl) gKeyError (by decide +kernel) rfl) (pa_cons (pe_bltn (v := .ty "IndexError") (by rfl) gIndexError (by decide +kernel) rfl) pa_nil))) pa_nil)))) (pw_or1 (pt_val (pe_callB (id := "isinstance") (r := rIsV K) call_isV (by rfl) gIsi (by decide +kernel) (pa_cons (pe_ix ix_list (pv 1) pe_int (fun _ _ => rfl)) (pa_cons (pe_bltn (v := .ty "OverflowError") (by rfl) gOverflowError (by decide +kernel) rfl) pa_nil))))))) (pss_one (ps_ret pe_bl)) pss_nil)
      (pss_one (ps_ret (pe_and (pe_callB (cr_all rfl) (by rfl) gAll (by decide +kernel) (pa_cons (pv 2) pa_nil)) (pe_one (pe_callB (id := "isinstance") (r := rIsV K) call_isV (by rfl) gIsi (by decide +kernel) (pa_cons (pe_mkZ (M.non 11 (by decide)) m11 hr (by rfl)) (pa_cons (pe_bltn (v := .ty "RuntimeError") (by rfl) gRuntimeError (by decide +kernel) rfl) pa_nil))))))))))))), ?_⟩
    refine ⟨_, rfl, v, rfl, newV_of fun e3 H0 s0 x3 => ⟨_, rfl, v, rfl, newV_of fun e5 H1 s1 x5 => ⟨_, rfl, v, rfl, newV_of fun e7 H2 s2 x7 => ⟨_, rfl, v, rfl, newV_of fun e1 H3 s3 x1 => ⟨(by show 4 ≤ sizeLine; decide), fun p hp => ?_⟩⟩⟩⟩⟩
    have s4 := Same.new (o := .lst [.ref e3, .ref e5, .ref e7, .ref e1]) hp
    have gp := upd_same (H := H3) (a := p) (o := .lst [.ref e3, .ref e5, .ref e7, .ref e1])
    generalize upd H3 p (.lst [.ref e3, .ref e5, .ref e7, .ref e1]) = H4 at *
    have t4 := s4
    have t3 := s3.trans t4
    have t2 := s2.trans t3
    have t1 := s1.trans t2
    have t0 := s0.trans t1
    have x3 := x3.same t1
    have x5 := x5.same t2
    have x7 := x7.same t3
    have x1 := x1.same t4
    have hv := hv.same t0
    clear s0 s1 s2 s3 s4 t1 t2 t3 t4
    refine ⟨_, rfl, fun e4 he4 => fun e11 he11 => ⟨(by show 2 ≤ sizeLine; decide), fun p2 hp2 => ?_⟩⟩
    have s5 := Same.new (o := ExV (c 4) none e4) he4
    have x4 : Held (upd H4 e4 (ExV (c 4) none e4)) e4 (c 4) := held0
    generalize upd H4 e4 (ExV (c 4) none e4) = H5 at *
    have s6 := Same.new (o := ExV (c 11) none e11) he11
    have x11 : Held (upd H5 e11 (ExV (c 11) none e11)) e11 (c 11) := held0
    generalize upd H5 e11 (ExV (c 11) none e11) = H6 at *
    have s7 := Same.new (o := .lst [.ref e4, .ref e11]) hp2
    have g2 := upd_same (H := H6) (a := p2) (o := .lst [.ref e4, .ref e11])
    generalize upd H6 p2 (.lst [.ref e4, .ref e11]) = H7 at *
    have t7 := s5.trans (s6.trans s7)
    refine ⟨p, p2, _, _, rfl, rfl, t7 _ _ gp, g2, (by show 6 ≤ sizeLine; decide), fun p3 hp3 => ?_⟩
    have s8 := Same.new (o := .lst ([.ref e3, .ref e5, .ref e7, .ref e1] ++ [.ref e4, .ref e11])) hp3
    have g3 := upd_same (H := H7) (a := p3) (o := .lst ([.ref e3, .ref e5, .ref e7, .ref e1] ++ [.ref e4, .ref e11]))
    generalize upd H7 p3 (.lst ([.ref e3, .ref e5, .ref e7, .ref e1] ++ [.ref e4, .ref e11])) = H8 at *
    have t8 := t7.trans s8
    have hx : AllX c H8 anyX ([.ref e3, .ref e5, .ref e7, .ref e1] ++ [.ref e4, .ref e11]) := .cons 3 (x3.held.same t8) rfl (.cons 5 (x5.held.same t8) rfl (.cons 7 (x7.held.same t8) rfl (.cons 1 (x1.held.same t8) rfl (.cons 4 (x4.same (s6.trans (s7.trans s8))) rfl (.cons 11 (x11.same (s7.trans s8)) rfl .nil)))))
    refine ⟨_, rfl, ⟨_, SqL.of g3⟩, fun D hD => ?_⟩
    refine lc_list (xs := [.ref e3, .ref e5, .ref e7, .ref e1] ++ [.ref e4, .ref e11]) (fun j H' => H' D = some (.lst ((List.replicate j true).map V.bl)) ∧ Same H8 H') ⟨upd_same, Same.new hD⟩ (fun j H' _ h => SqL.of (h.2 _ _ g3)) ?_ ?_
    · rintro j x H' hj ⟨n2, n4⟩
      have lj := (List.getElem?_eq_some_iff.mp hj).1
      obtain ⟨a, l, rfl, hh, ev⟩ := hx x (List.mem_of_getElem? hj)
      refine ⟨rfl, _, rfl, a, l, rfl, hh.same n4, fun H'' n5 => ⟨rfl, _, n5 _ _ n2, ?_, ?_, Same.newer hD (n4.trans n5)⟩⟩
      · rw [List.length_map, List.length_replicate]
        exact Nat.lt_of_lt_of_le lj (by show 6 ≤ sizeLine; decide)
      · rw [upd_same, List.replicate_succ', List.map_append]
        rfl
    rintro H' ⟨n2, n4⟩
    refine ⟨D, _, rfl, SqL.of n2, _, rfl, ?_⟩
    rw [all_rep]
    refine iteF ?_
    have u0 := t8.trans n4
    have gp := u0 _ _ gp
    have hv := hv.same u0
    have t0 := t0.trans u0
    clear hx g3 g2 s8 t8 s7 t7 hp3 hp2 x4 x11 s5 s6 hp
    have x3 := x3.same u0
    obtain ⟨d3, x3a, x3b⟩ := id x3
    have x5 := x5.same u0
    obtain ⟨d5, x5a, x5b⟩ := id x5
    have x7 := x7.same u0
    obtain ⟨d7, x7a, x7b⟩ := id x7
    have x1 := x1.same u0
    obtain ⟨d1, x1a, x1b⟩ := id x1
    refine ⟨_, rfl, p, _, _, _, rfl, rfl, SqL.of gp, rfl, e3, c 3, d3, _, v, rfl, x3a, (M.own 3).xf, no3, x3b, lk_one _ _, _, rfl, p, _, _, _, rfl, rfl, SqL.of gp, rfl, e5, c 5, d5, _, v, rfl, x5a, (M.own 5).xf, no5, x5b, lk_one _ _, _, rfl, p, _, _, _, rfl, rfl, SqL.of gp, rfl, e7, c 7, d7, _, v, rfl, x7a, (M.own 7).xf, no7, x7b, lk_one _ _, _, rfl, p, _, _, _, rfl, rfl, SqL.of gp, rfl, e1, c 1, d1, _, v, rfl, x1a, (M.own 1).xf, no1, x1b, lk_one _ _, (by show 4 ≤ sizeLine; decide), fun q hq => ?_⟩
    have s9 := Same.new (o := .lst [v, v, v, v]) hq
    have gq := upd_same (H := H') (a := q) (o := .lst [v, v, v, v])
    generalize upd H' q (.lst [v, v, v, v]) = H9 at *
    have hv9 := hv.same s9
    have ok := sm.n4
    refine ⟨.ref q, .list (List.replicate 4 d), rfl, (DatAt.lst gq (datAll_rep hv9 4)).dp, ok.sh, ok.sw, ok.ln, _, rfl, (by show 1 ≤ sizeLine; decide), fun r1 hr1 => ⟨r1, 4, [v], rfl, rfl, upd_same, by decide, by decide, (by show 4 ≤ sizeLine; decide), fun r2 hr2 => ?_⟩⟩
    have s10 := (Same.new (o := .lst [v]) hr1).trans (Same.new (o := .lst (List.replicate (4 : Int).toNat [v]).flatten) hr2)
    refine ⟨.ref r2, .list (List.replicate 4 d), rfl, (DatAt.lst upd_same (datAll_rep (hv9.same s10) 4)).dp, ok.sh, ok.sw, ok.ln, rfl, _, rfl, ?_⟩
    rw [decide_eq_true rfl]
    refine iteF ?_
    have u1 := s9.trans s10
    have gp := u1 _ _ gp
    have t0 := t0.trans u1
    have x3 := (x3.same u1).held
    have x5 := (x5.same u1).held
    have x7 := (x7.same u1).held
    have x1 := (x1.same u1).held
    generalize upd (upd H9 r1 (.lst [v])) r2 (.lst (List.replicate (4 : Int).toNat [v]).flatten) = H11 at *
    refine ⟨_, rfl, p, _, _, _, rfl, rfl, SqL.of gp, rfl, e3, c 3, .ty "KeyError", _, true, rfl, x3, (M.own 3).ec, .ty _, (M.own 3).kitB (by decide +kernel) (by decide +kernel), _, rfl, p, _, _, _, rfl, rfl, SqL.of gp, rfl, e5, c 5, .ty "LookupError", _, true, rfl, x5, (M.own 5).ec, .ty _, (M.own 5).kitB (by decide +kernel) (by decide +kernel), _, rfl, p, _, _, _, rfl, rfl, SqL.of gp, rfl, e7, c 7, .ty "IndexError", _, true, rfl, x7, (M.own 7).ec, .ty _, (M.own 7).kitB (by decide +kernel) (by decide +kernel), (by show 3 ≤ sizeLine; decide), fun w1 hw1 => ?_⟩
    have s12 := Same.new (o := .lst [.bl true, .bl true, .bl true]) hw1
    have gw1 := upd_same (H := H11) (a := w1) (o := .lst [.bl true, .bl true, .bl true])
    generalize upd H11 w1 (.lst [.bl true, .bl true, .bl true]) = H12 at *
    have x3 := x3.same s12
    have x5 := x5.same s12
    have x7 := x7.same s12
    have x1 := x1.same s12
    have gp := s12 _ _ gp
    have t0 := t0.trans s12
    refine ⟨_, rfl, _, rfl, p, _, _, _, rfl, rfl, SqL.of gp, rfl, e1, c 1, .ty "ArithmeticError", _, true, rfl, x1, (M.own 1).ec, .ty _, (M.own 1).kitB (by decide +kernel) (by decide +kernel), fun z4 hz4 => ⟨z4, c 4, .ty "TypeError", _, true, rfl, held0, (M.own 4).ec, .ty _, (M.own 4).kitB (by decide +kernel) (by decide +kernel), (by show 2 ≤ sizeLine; decide), fun w2 hw2 => ?_⟩⟩
    have s13 := Same.new (o := ExV (c 4) none z4) hz4
    have y4 : Held (upd H12 z4 (ExV (c 4) none z4)) z4 (c 4) := held0
    generalize upd H12 z4 (ExV (c 4) none z4) = H13 at *
    have s14 := Same.new (o := .lst [.bl true, .bl true]) hw2
    have gw2 := upd_same (H := H13) (a := w2) (o := .lst [.bl true, .bl true])
    generalize upd H13 w2 (.lst [.bl true, .bl true]) = H14 at *
    refine ⟨w1, w2, _, _, rfl, rfl, s14 _ _ (s13 _ _ gw1), gw2, (by show 5 ≤ sizeLine; decide), fun w3 hw3 => ?_⟩
    have s15 := Same.new (o := .lst ([.bl true, .bl true, .bl true] ++ [.bl true, .bl true])) hw3
    have gw3 := upd_same (H := H14) (a := w3) (o := .lst ([.bl true, .bl true, .bl true] ++ [.bl true, .bl true]))
    generalize upd H14 w3 (.lst ([.bl true, .bl true, .bl true] ++ [.bl true, .bl true])) = H15 at *
    have u2 := s13.trans (s14.trans s15)
    have gp := u2 _ _ gp
    have t0 := t0.trans u2
    have x3 := x3.same u2
    have x5 := x5.same u2
    have x7 := x7.same u2
    have x1 := x1.same u2
    refine ⟨_, rfl, p, _, _, _, rfl, rfl, SqL.of gp, rfl, (by show 2 ≤ sizeLine; decide), fun tp htp => ?_⟩
    have s16 := Same.new (o := .tup [.ty "KeyError", .ty "IndexError"]) htp
    have gtp := upd_same (H := H15) (a := tp) (o := .tup [.ty "KeyError", .ty "IndexError"])
    generalize upd H15 tp (.tup [.ty "KeyError", .ty "IndexError"]) = H16 at *
    have ka : PySem.W.kitAny K (.ref (c 5)) [.type "KeyError", .type "IndexError"] = some false := by
      simp only [PySem.W.kitAny, (M.own 5).kitB (B := "KeyError") (b := false) (by decide +kernel) (by decide +kernel), (M.own 5).kitB (B := "IndexError") (b := false) (by decide +kernel) (by decide +kernel)]
    have gp := s16 _ _ gp
    have x1 := x1.same s16
    refine ⟨e5, c 5, tp, _, _, false, rfl, x5.same s16, (M.own 5).ec, gtp, .cons (.ty _) (.cons (.ty _) .nil), ka, _, rfl, ?_⟩
    refine iteF ?_
    refine ⟨_, rfl, p, _, _, _, rfl, rfl, SqL.of gp, rfl, e1, c 1, .ty "OverflowError", _, false, rfl, x1, (M.own 1).ec, .ty _, (M.own 1).kitB (by decide +kernel) (by decide +kernel), _, rfl, ?_⟩
    refine iteF ?_
    refine ⟨_, rfl, w3, [true, true, true, true, true], rfl, SqL.of (s16 _ _ gw3), _, rfl, ?_⟩
    refine iteT ?_
    exact fun z hz => ⟨z, c 11, .ty "RuntimeError", _, true, rfl, held0, (M.own 11).ec, .ty _, (M.own 11).kitB (by decide +kernel) (by decide +kernel), k _ (t0.trans (s16.trans (Same.new hz)))⟩
end
end K21
namespace K21
open PySem PySem.Spec PyProof.Rows L2 Vr VB VY VZ VV
abbrev sNam : Stmt := top 20
section
variable {P : Program} {w : World} {K : PySem.W.Frag} {mg : Str → Option Value} {base : Heap} {c : Fin 12 → Addr}
abbrev nNam : List Str := ["_law_one", "_law_found"]
theorem scNam : FnScope nNam ["_law_one"] (defScope sNam) := ⟨rfl, rfl, rfl, by decide +kernel, rfl, by decide +kernel, by decide +kernel⟩
theorem ok_nam {f : Addr} {fd : FuncData} (F : Fun K "_law_named_right" "_law_named_right" sNam f fd) (M : Mod12 P K mg c) (gRepr : mg "repr" = none) :
    GOk P w K mg base CX0 2 f fd ["_law_one"] spRight := by
  refine fun_okG F scNam (fun vs H Q E h => ?_) (fun cdv A outer s H vs Q E hg hr h => ?_)
  · obtain ⟨v, d, rfl, _⟩ := h
    rfl
  · obtain ⟨v, d, rfl, hv, sm, k⟩ := h
    have m0 : mg "NoBook" = some (.ref (c 0)) := (M.own 0).m
    have m1 : mg "NoChange" = some (.ref (c 1)) := (M.own 1).m
    have m2 : mg "NoClaim" = some (.ref (c 2)) := (M.own 2).m
    have m3 : mg "NoClass" = some (.ref (c 3)) := (M.own 3).m
    have m5 : mg "NoOutcome" = some (.ref (c 5)) := (M.own 5).m
    have m6 : mg "NoPattern" = some (.ref (c 6)) := (M.own 6).m
    have m7 : mg "NoRank" = some (.ref (c 7)) := (M.own 7).m
    have m8 : mg "NoRow" = some (.ref (c 8)) := (M.own 8).m
    have m9 : mg "NoText" = some (.ref (c 9)) := (M.own 9).m
    have m10 : mg "NoTree" = some (.ref (c 10)) := (M.own 10).m
    have no0 : PySem.W.findIn K (.ref (c 0)) "position" = some none := (M.fld 0 (by decide) (by decide)).no
    have no1 : PySem.W.findIn K (.ref (c 1)) "change" = some none := (M.fld 1 (by decide) (by decide)).no
    have no2 : PySem.W.findIn K (.ref (c 2)) "claim" = some none := (M.fld 2 (by decide) (by decide)).no
    have no3 : PySem.W.findIn K (.ref (c 3)) "name" = some none := (M.fld 3 (by decide) (by decide)).no
    have no5 : PySem.W.findIn K (.ref (c 5)) "outcome" = some none := (M.fld 5 (by decide) (by decide)).no
    have no6 : PySem.W.findIn K (.ref (c 6)) "pattern" = some none := (M.fld 6 (by decide) (by decide)).no
    have no7 : PySem.W.findIn K (.ref (c 7)) "rank" = some none := (M.fld 7 (by decide) (by decide)).no
    have no8 : PySem.W.findIn K (.ref (c 8)) "row" = some none := (M.fld 8 (by decide) (by decide)).no
    have no9 : PySem.W.findIn K (.ref (c 9)) "position" = some none := (M.fld 9 (by decide) (by decide)).no
    have no10 : PySem.W.findIn K (.ref (c 10)) "tree" = some none := (M.fld 10 (by decide) (by decide)).no
    refine ⟨_, (pss_cons (ps_set (i := 1) scNam.nd rfl (Or.inl rfl) (pe_lst (pa_cons (pe_fldV (pe_mkN (f := "position") (M.fld 0 (by decide) (by decide)) rfl m0 hr (pk_cons (pv 0) pk_nil) (by rfl))) (pa_cons (pe_fldV (pe_mkN (f := "name") (M.fld 3 (by decide) (by decide)) rfl m3 hr (pk_cons (pv 0) pk_nil) (by rfl))) (pa_cons (pe_fldV (pe_mkN (f := "row") (M.fld 8 (by decide) (by decide)) rfl m8 hr (pk_cons (pv 0) pk_nil) (by rfl))) (pa_cons (pe_fldV (pe_mkN (f := "tree") (M.fld 10 (by decide) (by decide)) rfl m10 hr (pk_cons (pv 0) pk_nil) (by rfl))) pa_nil))))))
      (pss_cons (ps_set (i := 1) scNam.nd rfl (Or.inl rfl) (pe_op op_cat (pv 1) (pe_lst (pa_cons (pe_fldV (pe_mkN (f := "pattern") (M.fld 6 (by decide) (by decide)) rfl m6 hr (pk_cons (pv 0) pk_nil) (by rfl))) (pa_cons (pe_fldV (pe_mkN (f := "outcome") (M.fld 5 (by decide) (by decide)) rfl m5 hr (pk_cons (pv 0) pk_nil) (by rfl))) (pa_cons (pe_fldV (pe_mkN (f := "rank") (M.fld 7 (by decide) (by decide)) rfl m7 hr (pk_cons (pv 0) pk_nil) (by rfl))) pa_nil))))))
      (pss_cons (ps_set (i := 1) scNam.nd rfl (Or.inl rfl) (pe_op op_cat (pv 1) (pe_lst (pa_cons (pe_fldV (pe_mkN (f := "change") (M.fld 1 (by decide) (by decide)) rfl m1 hr (pk_cons (pv 0) pk_nil) (by rfl))) (pa_cons (pe_fldV (pe_mkN (f := "claim") (M.fld 2 (by decide) (by decide)) rfl m2 hr (pk_cons (pv 0) pk_nil) (by rfl))) (pa_cons (pe_fldV (pe_mkN (f := "position") (M.fld 9 (by decide) (by decide)) rfl m9 hr (pk_cons (pv 0) pk_nil) (by rfl))) pa_nil))))))
      (pss_one (ps_ret (pe_cmpR op_eq (pe_callB (call_reprD hg hr) (by rfl) gRepr (by decide +kernel) (pa_cons (pv 1) pa_nil)) (pe_callB (call_reprD hg hr) (by rfl) gRepr (by decide +kernel) (pa_cons (pe_op op_rep (pe_lst (pa_cons (pv 0) pa_nil)) pe_int) pa_nil)) (nomark _))))))), ?_⟩
    refine ⟨_, rfl, v, rfl, mk_fld (M.own 0).xf no0 fun H1 s1 => ⟨_, rfl, v, rfl, mk_fld (M.own 3).xf no3 fun H2 s2 => ⟨_, rfl, v, rfl, mk_fld (M.own 8).xf no8 fun H3 s3 => ⟨_, rfl, v, rfl, mk_fld (M.own 10).xf no10 fun H4 s4 => ⟨(by show 4 ≤ sizeLine; decide), fun p hp => ?_⟩⟩⟩⟩⟩
    have s5 := Same.new (o := .lst [v, v, v, v]) hp
    have gp := upd_same (H := H4) (a := p) (o := .lst [v, v, v, v])
    generalize upd H4 p (.lst [v, v, v, v]) = H5 at *
    have t5 := s1.trans (s2.trans (s3.trans (s4.trans s5)))
    refine ⟨_, rfl, ⟨_, rfl, v, rfl, mk_fld (M.own 6).xf no6 fun H6 s6 => ⟨_, rfl, v, rfl, mk_fld (M.own 5).xf no5 fun H7 s7 => ⟨_, rfl, v, rfl, mk_fld (M.own 7).xf no7 fun H8 s8 => ⟨(by show 3 ≤ sizeLine; decide), fun q hq => ?_⟩⟩⟩⟩⟩
    have s9 := Same.new (o := .lst [v, v, v]) hq
    have gq := upd_same (H := H8) (a := q) (o := .lst [v, v, v])
    generalize upd H8 q (.lst [v, v, v]) = H9 at *
    have t9 := s6.trans (s7.trans (s8.trans s9))
    refine ⟨p, q, _, _, rfl, rfl, t9 _ _ gp, gq, (by show 7 ≤ sizeLine; decide), fun r hr' => ?_⟩
    have s10 := Same.new (o := .lst ([v, v, v, v] ++ [v, v, v])) hr'
    have gr := upd_same (H := H9) (a := r) (o := .lst ([v, v, v, v] ++ [v, v, v]))
    generalize upd H9 r (.lst ([v, v, v, v] ++ [v, v, v])) = H10 at *
    refine ⟨_, rfl, ⟨_, rfl, v, rfl, mk_fld (M.own 1).xf no1 fun H11 s11 => ⟨_, rfl, v, rfl, mk_fld (M.own 2).xf no2 fun H12 s12 => ⟨_, rfl, v, rfl, mk_fld (M.own 9).xf no9 fun H13 s13 => ⟨(by show 3 ≤ sizeLine; decide), fun u hu => ?_⟩⟩⟩⟩⟩
    have s14 := Same.new (o := .lst [v, v, v]) hu
    have gu := upd_same (H := H13) (a := u) (o := .lst [v, v, v])
    generalize upd H13 u (.lst [v, v, v]) = H14 at *
    have t14 := s11.trans (s12.trans (s13.trans s14))
    refine ⟨r, u, _, _, rfl, rfl, t14 _ _ gr, gu, (by show 10 ≤ sizeLine; decide), fun z hz => ?_⟩
    have s15 := Same.new (o := .lst ([v, v, v, v] ++ [v, v, v] ++ [v, v, v])) hz
    have gz := upd_same (H := H14) (a := z) (o := .lst ([v, v, v, v] ++ [v, v, v] ++ [v, v, v]))
    generalize upd H14 z (.lst ([v, v, v, v] ++ [v, v, v] ++ [v, v, v])) = H15 at *
    have t15 := t5.trans (t9.trans (s10.trans (t14.trans s15)))
    have hv := hv.same t15
    have ok := sm.n10
    refine ⟨_, rfl, .ref z, .list (List.replicate 10 d), rfl, (DatAt.lst gz (datAll_rep hv 10)).dp, ok.sh, ok.sw, ok.ln, _, rfl, (by show 1 ≤ sizeLine; decide), fun r1 hr1 => ⟨r1, 10, [v], rfl, rfl, upd_same, by decide, by decide, (by show 10 ≤ sizeLine; decide), fun r2 hr2 => ?_⟩⟩
    have s16 := (Same.new (o := .lst [v]) hr1).trans (Same.new (o := .lst (List.replicate (10 : Int).toNat [v]).flatten) hr2)
    refine ⟨.ref r2, .list (List.replicate 10 d), rfl, (DatAt.lst upd_same (datAll_rep (hv.same s16) 10)).dp, ok.sh, ok.sw, ok.ln, rfl, ?_⟩
    rw [decide_eq_true rfl]
    exact k _ (t15.trans s16)
end
end K21
namespace K21
open PySem PySem.Spec PyProof.Rows L2 Vr VB VY VZ VV
abbrev sLaw : Stmt := top 21
def spLaw (K : PySem.W.Frag) : Sp := fun vs H Q _ => ∃ (a : Addr) (ns : List Int), vs = [.ref a] ∧ SqL K H a (ns.map V.int) ∧ ns.length ≤ 63 ∧ ∀ H', Q (.bl true) H'
section
variable {P : Program} {w : World} {K : PySem.W.Frag} {mg : Str → Option Value} {base : Heap} {c : Fin 12 → Addr}
abbrev nLaw : List Str := ["_law_script", "_law_at", "_law_bag_here", "_law_turn", "_law_one"]
theorem scLaw : FnScope nLaw ["_law_script"] (defScope sLaw) := ⟨rfl, rfl, rfl, by decide +kernel, rfl, by decide +kernel, by decide +kernel⟩
theorem ok_law {f fB fV fA fO fN : Addr} {fd dB dV dA dO dN : FuncData} (F : Fun K "law" "law" sLaw f fd) (GB : FnOk P w K mg base CX0 1 fB dB ["_law_script", "_law_at"] (spBag K)) (GV : FnOk P w K mg base CX0 2 fV dV ["_law_bag_here"] spVal)
    (GA : GOk P w K mg base CX0 2 fA dA ["_law_one"] spRight) (GO : GOk P w K mg base CX0 2 fO dO ["_law_one"] spRight) (GN : GOk P w K mg base CX0 2 fN dN ["_law_one"] spRight)
    (bB : Binds K dB ["_law_script", "_law_at"] []) (mB : mg "_law_bag" = some (.ref fB)) (kB : PySem.W.keepIn K (.ref fB) = true) (bV : Binds K dV ["_law_bag_here"] []) (mV : mg "_law_value" = some (.ref fV)) (kV : PySem.W.keepIn K (.ref fV) = true)
    (bA : Binds K dA ["_law_one"] []) (mA : mg "_law_values_right" = some (.ref fA)) (kA : PySem.W.keepIn K (.ref fA) = true) (bO : Binds K dO ["_law_one"] []) (mO : mg "_law_others_right" = some (.ref fO)) (kO : PySem.W.keepIn K (.ref fO) = true)
    (bN : Binds K dN ["_law_one"] []) (mN : mg "_law_named_right" = some (.ref fN)) (kN : PySem.W.keepIn K (.ref fN) = true) (gLen : mg "len" = none) (gRange : mg "range" = none) (gMax : mg "max" = none) (gMin : mg "min" = none) :
    GOk P w K mg base CX0 3 f fd ["_law_script"] (spLaw K) := by
  refine fun_okG F scLaw (fun vs H Q E h => ?_) (fun cdv A outer s H vs Q E hg hr h => ?_)
  · obtain ⟨a, ns, rfl, _⟩ := h
    rfl
  · obtain ⟨a, ns, rfl, hS, hlen, k⟩ := h
    have r1 : Room 1 _ := hr.mono (by decide)
    have r2 : Room 2 _ := hr
    refine ⟨_, (pss_cons (ps_for PassesOwn.never rfl (pi_range1 (by rfl) gRange (pa_cons (pe_callB (call_max2 rfl) (by rfl) gMax (by decide +kernel) (pa_cons pe_int (pa_cons (pe_callB (call_min2 rfl) (by rfl) gMin (by decide +kernel) (pa_cons pe_int (pa_cons (pe_callB call_len_seq (by rfl) gLen PySem.boot_len (pa_cons (pv 0) pa_nil)) pa_nil))) pa_nil))) pa_nil)) (pg_name (i := 1) scLaw.nd rfl (Or.inl rfl)) (pss_cons (ps_set (i := 2) scLaw.nd rfl (Or.inl rfl) (pe_call GB r1 (by rfl) mB kB bB .nil pass0 (pa_cons (pv 0) (pa_cons (pv 1) pa_nil))))
      (pss_one (ps_for PassesOwn.never rfl (pi_range1 (by rfl) gRange (pa_cons pe_int pa_nil)) (pg_name (i := 3) scLaw.nd rfl (Or.inl rfl)) (pss_cons (ps_set (i := 4) scLaw.nd rfl (Or.inl rfl) (pe_call GV r2 (by rfl) mV kV bV .nil pass0 (pa_cons (pv 2) pa_nil)))
      (pss_one (ps_if (PW.pt (pw_or (pt_not (pt_val (pe_callG GA hg r2 (by rfl) mA kA bA (pa_cons (pv 4) pa_nil)))) (pw_or (pt_not (pt_val (pe_callG GO hg r2 (by rfl) mO kO bO (pa_cons (pv 4) pa_nil)))) (pw_or1 (pt_not (pt_val (pe_callG GN hg r2 (by rfl) mN kN bN (pa_cons (pv 4) pa_nil)))))))) (pss_one (ps_ret pe_bl)) pss_nil)))))))
      (pss_one (ps_ret pe_bl))), ?_⟩
    have two : ∀ n : Nat, 1 ≤ (if (if (n : Int) < 2 then (n : Int) else 2) > 1 then (if (n : Int) < 2 then (n : Int) else 2) else 1) ∧ (if (if (n : Int) < 2 then (n : Int) else 2) > 1 then (if (n : Int) < 2 then (n : Int) else 2) else 1) ≤ 2 := by
      intro n
      repeat' split
      all_goals omega
    have t2 := two (List.map V.int ns).length
    refine ⟨_, rfl, a, _, rfl, Or.inl hS, _, _, rfl, _, _, rfl, _, rfl, Int.le_trans (by decide) t2.1, Int.lt_of_le_of_lt t2.2 (by decide), ?_⟩
    refine for_range (lo := 0) (fun i σ H1 => (∃ (o1 o2 o3 o4 : Option V), σ = [some (.ref a), o1, o2, o3, o4]) ∧ Same H H1) ⟨⟨none, none, none, none, rfl⟩, Same.refl H⟩ ?_ ?_
    · rintro i σ H1 hi ⟨⟨o1, o2, o3, o4, rfl⟩, s1⟩
      have i2 : (i : Int) < 2 := by
        have := t2.2
        omega
      clear two t2 hi
      refine ⟨_, rfl, _, rfl, a, ns, _, rfl, s1.seq hS, hlen, by omega, by omega, fun b H2 nb hb2 s2 => ?_⟩
      have nbH : H b = none := s1.free nb
      refine ⟨_, rfl, by decide, by decide, ?_⟩
      refine for_range (lo := 0) (fun j σ H4 => (∃ (o3 o4 : Option V), σ = [some (.ref a), some (.int (0 + (i : Int))), some (.ref b), o3, o4]) ∧ Bag H4 b ∧ Same H H4) ⟨⟨_, _, rfl⟩, hb2, s1.trans s2⟩ ?_ (fun σ H4 h => ⟨?_, h.2.2⟩)
      · rintro j σ H4 hj ⟨⟨o3, o4, rfl⟩, hb4, s4⟩
        refine ⟨_, rfl, b, rfl, hb4, fun v d H5 hv sm hb5 k5 => ?_⟩
        have s5 : Same H H5 := Same.thenBut nbH s4 k5
        refine ⟨_, rfl, v, d, rfl, hv, sm, fun H6 s6 => ⟨_, rfl, ?_⟩⟩
        refine iteF ?_
        refine ⟨_, rfl, v, d, rfl, hv.same s6, sm, fun H7 s7 => ⟨_, rfl, ?_⟩⟩
        refine iteF ?_
        refine ⟨_, rfl, v, d, rfl, (hv.same s6).same s7, sm, fun H8 s8 => ⟨_, rfl, ?_⟩⟩
        refine iteF ?_
        exact ⟨⟨_, _, rfl⟩, hb5.same (s6.trans (s7.trans s8)), s5.trans (s6.trans (s7.trans s8))⟩
      · obtain ⟨⟨o3', o4', rfl⟩, _⟩ := h
        exact ⟨_, _, _, _, rfl⟩
    · rintro σ H' _
      exact k _
end
end K21
namespace K21
open PySem PySem.Spec PyProof.Rows L2 Vr VB VY VZ VV PySem.W PySem.HandSPX
structure BaseS (B iid newId : String) (bm : List Value) : Prop extends Base B iid newId bm where
  up : ∀ {K : Frag} {C N : Addr} {nm q : Str} {bs : List Value} {sn : List Str} {sub : List Value} {ab : Bool} {col : Option Bool} {dd : Option Addr} {m0 m1 m2 m3 m5 : Option Value},
    K.lookup C = some (excClassObj nm q C N bs bm true sn sub ab col dd m0 m1 m2 m3 m5 newId) → ks_superIn K C C "__init__" = some (some (.builtin iid))
  be : bm.contains (.type "BaseException") = true
  bb : bm.contains (.type B) = true
  tl : excTail bm bm = true
section
variable {K : Frag} {C N : Addr} {nm q : Str} {bs bm : List Value} {sn : List Str} {sub : List Value} {ab : Bool} {col : Option Bool} {dd : Option Addr} {m0 m1 m2 m3 m5 : Option Value} {newId : String}
theorem x_cl (x : K.lookup C = some (excClassObj nm q C N bs bm true sn sub ab col dd m0 m1 m2 m3 m5 newId)) : ∃ cd, clsIn K C = some cd ∧ cd.mro = .ref C :: bm ∧ cd.name = nm ∧ cd.hasDict = true := by
  unfold clsIn
  rw [x]
  exact ⟨_, rfl, rfl, rfl, rfl⟩
theorem x_mro (x : K.lookup C = some (excClassObj nm q C N bs bm true sn sub ab col dd m0 m1 m2 m3 m5 newId)) (b : Value) : mroIn K C b = some ((Value.ref C :: bm).contains b) := by
  obtain ⟨cd, h1, h2, _⟩ := x_cl x
  unfold mroIn
  rw [h1, Option.bind_some, h2]
  rfl
theorem x_hd (x : K.lookup C = some (excClassObj nm q C N bs bm true sn sub ab col dd m0 m1 m2 m3 m5 newId)) : hasDictIn K C = true := by
  obtain ⟨cd, h1, _, _, h2⟩ := x_cl x
  unfold hasDictIn
  rw [h1]
  exact h2
theorem x_ty (x : K.lookup C = some (excClassObj nm q C N bs bm true sn sub ab col dd m0 m1 m2 m3 m5 newId)) : typeIn K (.ref C) = some (.type "type") := by
  unfold typeIn
  dsimp only
  rw [x]
  rfl
end
theorem sbVE : BaseS "ValueError" "ValueError.__init__" "ValueError.__new__" veT where
  toBase := bVE
  up := fun {K C N nm q bs sn sub ab col dd m0 m1 m2 m3 m5} x => by
    obtain ⟨cd, hcl, hm, _⟩ := x_cl x
    unfold ks_superIn
    rw [hcl, Option.bind_some, hm]
    have e : ∀ l : List Value, List.drop 1 (List.dropWhile (fun x => x != Value.ref C) (Value.ref C :: l)) = l := fun l => by simp
    rw [e]
    kernel_rfl
  be := by decide +kernel
  bb := by decide +kernel
  tl := by decide +kernel
theorem sbLE : BaseS "LookupError" "LookupError.__init__" "LookupError.__new__" leTail where
  toBase := bLE
  up := fun {K C N nm q bs sn sub ab col dd m0 m1 m2 m3 m5} x => by
    obtain ⟨cd, hcl, hm, _⟩ := x_cl x
    unfold ks_superIn
    rw [hcl, Option.bind_some, hm]
    have e : ∀ l : List Value, List.drop 1 (List.dropWhile (fun x => x != Value.ref C) (Value.ref C :: l)) = l := fun l => by simp
    rw [e]
    kernel_rfl
  be := by decide +kernel
  bb := by decide +kernel
  tl := by decide +kernel
theorem sbIE : BaseS "IndexError" "IndexError.__init__" "IndexError.__new__" ieTail where
  toBase := bIE
  up := fun {K C N nm q bs sn sub ab col dd m0 m1 m2 m3 m5} x => by
    obtain ⟨cd, hcl, hm, _⟩ := x_cl x
    unfold ks_superIn
    rw [hcl, Option.bind_some, hm]
    have e : ∀ l : List Value, List.drop 1 (List.dropWhile (fun x => x != Value.ref C) (Value.ref C :: l)) = l := fun l => by simp
    rw [e]
    kernel_rfl
  be := by decide +kernel
  bb := by decide +kernel
  tl := by decide +kernel
theorem sbAE : BaseS "ArithmeticError" "ArithmeticError.__init__" "ArithmeticError.__new__" aeTail where
  toBase := bAE
  up := fun {K C N nm q bs sn sub ab col dd m0 m1 m2 m3 m5} x => by
    obtain ⟨cd, hcl, hm, _⟩ := x_cl x
    unfold ks_superIn
    rw [hcl, Option.bind_some, hm]
    have e : ∀ l : List Value, List.drop 1 (List.dropWhile (fun x => x != Value.ref C) (Value.ref C :: l)) = l := fun l => by simp
    rw [e]
    kernel_rfl
  be := by decide +kernel
  bb := by decide +kernel
  tl := by decide +kernel
theorem sbTE : BaseS "TypeError" "TypeError.__init__" "TypeError.__new__" teTail where
  toBase := bTE
  up := fun {K C N nm q bs sn sub ab col dd m0 m1 m2 m3 m5} x => by
    obtain ⟨cd, hcl, hm, _⟩ := x_cl x
    unfold ks_superIn
    rw [hcl, Option.bind_some, hm]
    have e : ∀ l : List Value, List.drop 1 (List.dropWhile (fun x => x != Value.ref C) (Value.ref C :: l)) = l := fun l => by simp
    rw [e]
    kernel_rfl
  be := by decide +kernel
  bb := by decide +kernel
  tl := by decide +kernel
theorem sbRE : BaseS "RuntimeError" "RuntimeError.__init__" "RuntimeError.__new__" reTail where
  toBase := bRE
  up := fun {K C N nm q bs sn sub ab col dd m0 m1 m2 m3 m5} x => by
    obtain ⟨cd, hcl, hm, _⟩ := x_cl x
    unfold ks_superIn
    rw [hcl, Option.bind_some, hm]
    have e : ∀ l : List Value, List.drop 1 (List.dropWhile (fun x => x != Value.ref C) (Value.ref C :: l)) = l := fun l => by simp
    rw [e]
    kernel_rfl
  be := by decide +kernel
  bb := by decide +kernel
  tl := by decide +kernel
theorem sbKE : BaseS "KeyError" "KeyError.__init__" "LookupError.__new__" keTail where
  toBase := bKE
  up := fun {K C N nm q bs sn sub ab col dd m0 m1 m2 m3 m5} x => by
    obtain ⟨cd, hcl, hm, _⟩ := x_cl x
    unfold ks_superIn
    rw [hcl, Option.bind_some, hm]
    have e : ∀ l : List Value, List.drop 1 (List.dropWhile (fun x => x != Value.ref C) (Value.ref C :: l)) = l := fun l => by simp
    rw [e]
    kernel_rfl
  be := by decide +kernel
  bb := by decide +kernel
  tl := by decide +kernel
theorem ownF_mk {P : Program} {K : Frag} {h : Heap} {mg : Str → Option Value} (X : K.In h) (G : h.Ns mainGlobals mg) (i : Fin 12) {n f qual lit : Str} {B ini newId : String} {bm : List Value}
    (hn : nmOf i = n) (hf : fOf i = f) (hB : bOf i = B) (hbm : bmOf i = bm) (BF : BaseS B ini newId bm)
    (tp : nsIn K cStatics "thirdparty.any" = some none) (su : nsIn K mainGlobals "super" = some none) (pt : (P.main.scope.names.lookup ("super" : Str)).isSome = false)
    (hs : specialIn K (.builtin "object.__class__") "__get__" = some (some (.builtin "getset_descriptor.__get__"))) (ht : takesIn K (.builtin "object.__class__") = some true)
    {C fI cda cc N : Addr} {q file : Str} {bs : List Value} {sn : List Str} {sub : List Value} {ab : Bool} {col : Option Bool} {dd odI anI cld cdd : Option Addr} {m0 m1 m2 m3 m5 : Option Value} {slI csl ccs : Array (Option Value)} {vs : Array Value} {ocI dcI pmI ctI cl ccl : Value} {tf : Tok}
    (a : nsIn K mainGlobals n = some (some (.ref C)))
    (x : K.lookup C = some (excClassObj n q C N bs bm true sn sub ab col dd m0 m1 m2 m3 m5 newId))
    (sa : findIn K (.ref C) "__setattr__" = some (some (.builtin "object.__setattr__")))
    (no : findIn K (.ref C) f = some none)
    (ga : findIn K (.ref C) "__getattribute__" = some (some (.builtin "BaseException.__getattribute__")))
    (gg : findIn K (.ref C) "__getattr__" = some none)
    (ic : findIn K (.ref C) "__init__" = some (some (.ref fI)))
    (tc : typeIn K (.ref fI) = some (.type "function"))
    (kc : keepIn K (.ref C) = true)
    (ha : findIn K (.ref C) "__class__" = some (some (.builtin "object.__class__")))
    (bd : ∀ (B : List Stmt) (p1 p2 : Pos) (doc pm : Value) (an : Option Addr) (cdv ct : Value) (cc : Addr) (a v : Value), bindArgs (ksFn "__init__" qual (nA f p1 p2) B (nS f) .none .none doc pm an cdv ct cc) ⟨[a, v], []⟩ = pure [(("self" : Str), a), (f, v)])
    (bk : ∀ (B : List Stmt) (p1 p2 : Pos) (doc pm : Value) (an : Option Addr) (cdv ct : Value) (cc : Addr) (a v : Value), bindArgs (ksFn "__init__" qual (nA f p1 p2) B (nS f) .none .none doc pm an cdv ct cc) ⟨[a], [(f, v)]⟩ = pure [(("self" : Str), a), (f, v)])
    (lk : (nS f).names.lookup ("self" : Str) = some .local ∧ (nS f).names.lookup f = some .local ∧ (nS f).names.lookup ("__class__" : Str) = some .free ∧ (nS f).names.lookup ("super" : Str) = some .globalImplicit)
    (sf : (("self" : Str) == f) = false) (db : (f == ("__debug__" : Str)) = false)
    {p1 p2 q1 q2 q3 q4 q5 q6 q7 q8 q9 qa : Pos}
    (lI : K.lookup fI = some ⟨ocI, odI, .func (ksFn "__init__" qual (nA f p1 p2) (nB f lit q1 q2 q3 q4 q5 q6 q7 q8 q9 qa) (nS f) .none .none dcI pmI anI (.ref cda) ctI cc), slI⟩)
    (hq : (q3.endLine == q5.line) = true)
    (cI : codeIn K (.ref cda) qual = true)
    (lc : K.lookup cc = some ⟨cl, cld, .cell (some (.ref C)), csl⟩)
    (ld : K.lookup cda = some ⟨ccl, cdd, .fields vs, ccs⟩)
    (lv : vs[2]? = some (.str file tf))
    (lf : ((P.main.file : Str) == file) = true) : ∃ C, Own K mg i C ∧ OwnF P K mg i C := by
  have xb : subIn K (.ref C) (.type "BaseException") = some true := by
    show mroIn K C _ = _
    rw [x_mro x, List.contains_cons, BF.be, Bool.or_true]
  have hd := x_hd x
  obtain ⟨cd, h1, h2, h3, _⟩ := x_cl x
  have O : Own K mg i C := { m := by rw [hn]; exact mg_of X G a, ec := ⟨ga, gg, xb, hd, ha, hs, ht, by rw [x_mro x, List.contains_cons, BF.ob, Bool.or_true]⟩, xf := ⟨ga, gg, xb, hd⟩, cl := ⟨cd, h1, by rw [hbm]; exact h2, by rw [hn]; exact h3⟩, ty := x_ty x }
  have TC : TxtC P K C fI B ini newId bm :=
    { cls := ⟨n, q, N, bs, bm, sn, sub, ab, col, dd, m0, m1, m2, m3, m5, x, BF.tl⟩, iC := ic, tC := tc, kC := kc, exC := xb, tyC := x_ty x,
      beC := by
        show mroIn K C _ = _
        rw [x_mro x, List.contains_cons, BF.bb, Bool.or_true]
      up := BF.up x, me := by rw [x_mro x, List.contains_cons]; simp, tp := tp, sup := su, top := pt }
  refine ⟨C, O, ⟨fI, qual, lit, ini, newId, ?_, by rw [hB, hbm]; exact BF.toBase⟩⟩
  rw [hf, hB, hbm]
  exact { TC with sa := sa, noN := no, bd := bd, bk := bk, lk := lk, sf := sf, db := db, fn := ⟨ocI, odI, dcI, pmI, anI, cda, cc, ctI, slI, p1, p2, q1, q2, q3, q4, q5, q6, q7, q8, q9, qa, lI, cI, hq, ⟨cl, cld, csl, lc⟩, ⟨ccl, cdd, vs, ccs, file, tf, ld, lv, lf⟩⟩ }
theorem own0_mk {P : Program} {K : Frag} {h : Heap} {mg : Str → Option Value} (X : K.In h) (G : h.Ns mainGlobals mg) (i : Fin 12) {n qual : Str} {B ini newId : String} {bm : List Value}
    (hn : nmOf i = n) (hB : bOf i = B) (hbm : bmOf i = bm) (BF : BaseS B ini newId bm)
    (tp : nsIn K cStatics "thirdparty.any" = some none) (su : nsIn K mainGlobals "super" = some none) (pt : (P.main.scope.names.lookup ("super" : Str)).isSome = false)
    (hs : specialIn K (.builtin "object.__class__") "__get__" = some (some (.builtin "getset_descriptor.__get__"))) (ht : takesIn K (.builtin "object.__class__") = some true)
    {C fI cda cc N : Addr} {q file : Str} {bs : List Value} {sn : List Str} {sub : List Value} {ab : Bool} {col : Option Bool} {dd odI anI cld cdd : Option Addr} {m0 m1 m2 m3 m5 : Option Value} {slI csl ccs : Array (Option Value)} {vs : Array Value} {ocI dcI pmI ctI cl ccl : Value} {tf : Tok}
    (a : nsIn K mainGlobals n = some (some (.ref C)))
    (x : K.lookup C = some (excClassObj n q C N bs bm true sn sub ab col dd m0 m1 m2 m3 m5 newId))
    (ga : findIn K (.ref C) "__getattribute__" = some (some (.builtin "BaseException.__getattribute__")))
    (gg : findIn K (.ref C) "__getattr__" = some none)
    (ic : findIn K (.ref C) "__init__" = some (some (.ref fI)))
    (tc : typeIn K (.ref fI) = some (.type "function"))
    (kc : keepIn K (.ref C) = true)
    (ha : findIn K (.ref C) "__class__" = some (some (.builtin "object.__class__")))
    (bd : ∀ (B : List Stmt) (p1 : Pos) (doc pm : Value) (an : Option Addr) (cdv ct : Value) (cc : Addr) (a : Value), bindArgs (ksFn "__init__" qual (zA p1) B zS .none .none doc pm an cdv ct cc) ⟨[a], []⟩ = pure [(("self" : Str), a)])
    {p1 q1 q2 q3 q5 q6 : Pos}
    (lI : K.lookup fI = some ⟨ocI, odI, .func (ksFn "__init__" qual (zA p1) (zB q1 q2 q3 q5 q6) zS .none .none dcI pmI anI (.ref cda) ctI cc), slI⟩)
    (hq : (q3.endLine == q5.line) = true)
    (cI : codeIn K (.ref cda) qual = true)
    (lc : K.lookup cc = some ⟨cl, cld, .cell (some (.ref C)), csl⟩)
    (ld : K.lookup cda = some ⟨ccl, cdd, .fields vs, ccs⟩)
    (lv : vs[2]? = some (.str file tf))
    (lf : ((P.main.file : Str) == file) = true) : ∃ C, Own K mg i C ∧ Own0 P K mg i C := by
  have xb : subIn K (.ref C) (.type "BaseException") = some true := by
    show mroIn K C _ = _
    rw [x_mro x, List.contains_cons, BF.be, Bool.or_true]
  have hd := x_hd x
  obtain ⟨cd, h1, h2, h3, _⟩ := x_cl x
  have O : Own K mg i C := { m := by rw [hn]; exact mg_of X G a, ec := ⟨ga, gg, xb, hd, ha, hs, ht, by rw [x_mro x, List.contains_cons, BF.ob, Bool.or_true]⟩, xf := ⟨ga, gg, xb, hd⟩, cl := ⟨cd, h1, by rw [hbm]; exact h2, by rw [hn]; exact h3⟩, ty := x_ty x }
  have TC : TxtC P K C fI B ini newId bm :=
    { cls := ⟨n, q, N, bs, bm, sn, sub, ab, col, dd, m0, m1, m2, m3, m5, x, BF.tl⟩, iC := ic, tC := tc, kC := kc, exC := xb, tyC := x_ty x,
      beC := by
        show mroIn K C _ = _
        rw [x_mro x, List.contains_cons, BF.bb, Bool.or_true]
      up := BF.up x, me := by rw [x_mro x, List.contains_cons]; simp, tp := tp, sup := su, top := pt }
  refine ⟨C, O, ⟨fI, qual, ini, newId, ?_, by rw [hB, hbm]; exact BF.toBase⟩⟩
  rw [hB, hbm]
  exact { TC with bd := bd, fn := ⟨ocI, odI, dcI, pmI, anI, cda, cc, ctI, slI, p1, q1, q2, q3, q5, q6, lI, cI, hq, ⟨cl, cld, csl, lc⟩, ⟨ccl, cdd, vs, ccs, file, tf, ld, lv, lf⟩⟩ }
def pick (c0 c1 c2 c3 c4 c5 c6 c7 c8 c9 c10 c11 : Addr) : Fin 12 → Addr
  | 0 => c0 | 1 => c1 | 2 => c2 | 3 => c3 | 4 => c4 | 5 => c5 | 6 => c6 | 7 => c7 | 8 => c8 | 9 => c9 | 10 => c10 | 11 => c11
theorem mod_of {P : Program} {K : Frag} {mg : Str → Option Value} (h0 : ∃ C, Own K mg 0 C ∧ OwnF P K mg 0 C) (h1 : ∃ C, Own K mg 1 C ∧ OwnF P K mg 1 C) (h2 : ∃ C, Own K mg 2 C ∧ OwnF P K mg 2 C) (h3 : ∃ C, Own K mg 3 C ∧ OwnF P K mg 3 C) (h4 : ∃ C, Own K mg 4 C ∧ Own0 P K mg 4 C) (h5 : ∃ C, Own K mg 5 C ∧ OwnF P K mg 5 C) (h6 : ∃ C, Own K mg 6 C ∧ OwnF P K mg 6 C) (h7 : ∃ C, Own K mg 7 C ∧ OwnF P K mg 7 C) (h8 : ∃ C, Own K mg 8 C ∧ OwnF P K mg 8 C) (h9 : ∃ C, Own K mg 9 C ∧ OwnF P K mg 9 C) (h10 : ∃ C, Own K mg 10 C ∧ OwnF P K mg 10 C) (h11 : ∃ C, Own K mg 11 C ∧ Own0 P K mg 11 C) : ∃ c, Mod12 P K mg c := by
  obtain ⟨c0, o0, u0⟩ := h0
  obtain ⟨c1, o1, u1⟩ := h1
  obtain ⟨c2, o2, u2⟩ := h2
  obtain ⟨c3, o3, u3⟩ := h3
  obtain ⟨c4, o4, u4⟩ := h4
  obtain ⟨c5, o5, u5⟩ := h5
  obtain ⟨c6, o6, u6⟩ := h6
  obtain ⟨c7, o7, u7⟩ := h7
  obtain ⟨c8, o8, u8⟩ := h8
  obtain ⟨c9, o9, u9⟩ := h9
  obtain ⟨c10, o10, u10⟩ := h10
  obtain ⟨c11, o11, u11⟩ := h11
  refine ⟨pick c0 c1 c2 c3 c4 c5 c6 c7 c8 c9 c10 c11, fun i => ?_, fun i n4 n11 => ?_, fun i hi => ?_⟩
  · match i with
    | 0 => exact o0
    | 1 => exact o1
    | 2 => exact o2
    | 3 => exact o3
    | 4 => exact o4
    | 5 => exact o5
    | 6 => exact o6
    | 7 => exact o7
    | 8 => exact o8
    | 9 => exact o9
    | 10 => exact o10
    | 11 => exact o11
  · match i, n4, n11 with
    | 0, _, _ => exact u0
    | 1, _, _ => exact u1
    | 2, _, _ => exact u2
    | 3, _, _ => exact u3
    | 5, _, _ => exact u5
    | 6, _, _ => exact u6
    | 7, _, _ => exact u7
    | 8, _, _ => exact u8
    | 9, _, _ => exact u9
    | 10, _, _ => exact u10
    | 4, n, _ => exact (n rfl).elim
    | 11, _, n => exact (n rfl).elim
  · rcases hi with rfl | rfl
    · exact u4
    · exact u11
end K21
namespace K21
open PySem PySem.Spec PyProof.Rows L2 Vr
theorem mod_ofS {P : Program} {K : PySem.W.Frag} {mg : Str → Option Value} (tp : PySem.W.nsIn K cStatics "thirdparty.any" = some none) (su : PySem.W.nsIn K mainGlobals "super" = some none) (pt : (P.main.scope.names.lookup ("super" : Str)).isSome = false)
    (hs : PySem.W.specialIn K (.builtin "object.__class__") "__get__" = some (some (.builtin "getset_descriptor.__get__"))) (ht : PySem.W.takesIn K (.builtin "object.__class__") = some true)
    (k : PySem.W.nsIn K cStatics "thirdparty.any" = some none → PySem.W.nsIn K mainGlobals "super" = some none → (P.main.scope.names.lookup ("super" : Str)).isSome = false → PySem.W.specialIn K (.builtin "object.__class__") "__get__" = some (some (.builtin "getset_descriptor.__get__")) → PySem.W.takesIn K (.builtin "object.__class__") = some true → ∃ c, Mod12 P K mg c) : ∃ c, Mod12 P K mg c := k tp su pt hs ht
theorem all_mk {P : Program} {w : World} {K : PySem.W.Frag} {h : Heap} {mg : Str → Option Value} {fa : Addr} (X : K.In h) (G : h.Ns mainGlobals mg) (hfa : mg "law" = some (.ref fa))
    {fBa : Addr} {odBa anBa : Option Addr} {slBa : Array (Option Value)} {ocBa kVBa dcBa pmBa cdBa ctBa : Value}
    (aBa : PySem.W.nsIn K mainGlobals "_law_bag" = some (some (.ref fBa)))
    (lBa : K.lookup fBa = some ⟨ocBa, odBa, .func (PySem.W.fnOf "_law_bag" "_law_bag" (defArgs sBag) (defBody sBag) (defScope sBag) .none kVBa dcBa pmBa anBa cdBa ctBa), slBa⟩)
    (cBa : PySem.W.codeIn K cdBa "_law_bag" = true) (kBa : PySem.W.keepIn K (.ref fBa) = true)
    {fTa : Addr} {odTa anTa : Option Addr} {slTa : Array (Option Value)} {ocTa kVTa dcTa pmTa cdTa ctTa : Value}
    (aTa : PySem.W.nsIn K mainGlobals "_law_take" = some (some (.ref fTa)))
    (lTa : K.lookup fTa = some ⟨ocTa, odTa, .func (PySem.W.fnOf "_law_take" "_law_take" (defArgs sTake) (defBody sTake) (defScope sTake) .none kVTa dcTa pmTa anTa cdTa ctTa), slTa⟩)
    (cTa : PySem.W.codeIn K cdTa "_law_take" = true) (kTa : PySem.W.keepIn K (.ref fTa) = true)
    {fVa : Addr} {odVa anVa : Option Addr} {slVa : Array (Option Value)} {ocVa kVVa dcVa pmVa cdVa ctVa : Value}
    (aVa : PySem.W.nsIn K mainGlobals "_law_value" = some (some (.ref fVa)))
    (lVa : K.lookup fVa = some ⟨ocVa, odVa, .func (PySem.W.fnOf "_law_value" "_law_value" (defArgs sVal) (defBody sVal) (defScope sVal) .none kVVa dcVa pmVa anVa cdVa ctVa), slVa⟩)
    (cVa : PySem.W.codeIn K cdVa "_law_value" = true) (kVa : PySem.W.keepIn K (.ref fVa) = true)
    {fOn : Addr} {odOn anOn : Option Addr} {slOn : Array (Option Value)} {ocOn kVOn dcOn pmOn cdOn ctOn : Value}
    (aOn : PySem.W.nsIn K mainGlobals "_law_is_one_of" = some (some (.ref fOn)))
    (lOn : K.lookup fOn = some ⟨ocOn, odOn, .func (PySem.W.fnOf "_law_is_one_of" "_law_is_one_of" (defArgs sOne) (defBody sOne) (defScope sOne) .none kVOn dcOn pmOn anOn cdOn ctOn), slOn⟩)
    (cOn : PySem.W.codeIn K cdOn "_law_is_one_of" = true) (kOn : PySem.W.keepIn K (.ref fOn) = true)
    {fVr : Addr} {odVr anVr : Option Addr} {slVr : Array (Option Value)} {ocVr kVVr dcVr pmVr cdVr ctVr : Value}
    (aVr : PySem.W.nsIn K mainGlobals "_law_values_right" = some (some (.ref fVr)))
    (lVr : K.lookup fVr = some ⟨ocVr, odVr, .func (PySem.W.fnOf "_law_values_right" "_law_values_right" (defArgs sVals) (defBody sVals) (defScope sVals) .none kVVr dcVr pmVr anVr cdVr ctVr), slVr⟩)
    (cVr : PySem.W.codeIn K cdVr "_law_values_right" = true) (kVr : PySem.W.keepIn K (.ref fVr) = true)
    {fOt : Addr} {odOt anOt : Option Addr} {slOt : Array (Option Value)} {ocOt kVOt dcOt pmOt cdOt ctOt : Value}
    (aOt : PySem.W.nsIn K mainGlobals "_law_others_right" = some (some (.ref fOt)))
    (lOt : K.lookup fOt = some ⟨ocOt, odOt, .func (PySem.W.fnOf "_law_others_right" "_law_others_right" (defArgs sOth) (defBody sOth) (defScope sOth) .none kVOt dcOt pmOt anOt cdOt ctOt), slOt⟩)
    (cOt : PySem.W.codeIn K cdOt "_law_others_right" = true) (kOt : PySem.W.keepIn K (.ref fOt) = true)
    {fNa : Addr} {odNa anNa : Option Addr} {slNa : Array (Option Value)} {ocNa kVNa dcNa pmNa cdNa ctNa : Value}
    (aNa : PySem.W.nsIn K mainGlobals "_law_named_right" = some (some (.ref fNa)))
    (lNa : K.lookup fNa = some ⟨ocNa, odNa, .func (PySem.W.fnOf "_law_named_right" "_law_named_right" (defArgs sNam) (defBody sNam) (defScope sNam) .none kVNa dcNa pmNa anNa cdNa ctNa), slNa⟩)
    (cNa : PySem.W.codeIn K cdNa "_law_named_right" = true) (kNa : PySem.W.keepIn K (.ref fNa) = true)
    {fLa : Addr} {odLa anLa : Option Addr} {slLa : Array (Option Value)} {ocLa kVLa dcLa pmLa cdLa ctLa : Value}
    (aLa : PySem.W.nsIn K mainGlobals "law" = some (some (.ref fLa)))
    (lLa : K.lookup fLa = some ⟨ocLa, odLa, .func (PySem.W.fnOf "law" "law" (defArgs sLaw) (defBody sLaw) (defScope sLaw) .none kVLa dcLa pmLa anLa cdLa ctLa), slLa⟩)
    (cLa : PySem.W.codeIn K cdLa "law" = true) (kLa : PySem.W.keepIn K (.ref fLa) = true)
    (z_len : PySem.W.nsIn K mainGlobals "len" = some none)
    (z_range : PySem.W.nsIn K mainGlobals "range" = some none)
    (z_max : PySem.W.nsIn K mainGlobals "max" = some none)
    (z_min : PySem.W.nsIn K mainGlobals "min" = some none)
    (z_isinstance : PySem.W.nsIn K mainGlobals "isinstance" = some none)
    (z_all : PySem.W.nsIn K mainGlobals "all" = some none)
    (z_repr : PySem.W.nsIn K mainGlobals "repr" = some none)
    (z_abs : PySem.W.nsIn K mainGlobals "abs" = some none)
    (z_ValueError : PySem.W.nsIn K mainGlobals "ValueError" = some none)
    (z_KeyError : PySem.W.nsIn K mainGlobals "KeyError" = some none)
    (z_LookupError : PySem.W.nsIn K mainGlobals "LookupError" = some none)
    (z_IndexError : PySem.W.nsIn K mainGlobals "IndexError" = some none)
    (z_ArithmeticError : PySem.W.nsIn K mainGlobals "ArithmeticError" = some none)
    (z_TypeError : PySem.W.nsIn K mainGlobals "TypeError" = some none)
    (z_OverflowError : PySem.W.nsIn K mainGlobals "OverflowError" = some none)
    (z_RuntimeError : PySem.W.nsIn K mainGlobals "RuntimeError" = some none)
    (mM : ∃ c, Mod12 P K mg c) :
    ∃ fd : FuncData, (∀ (s : Shared) (u : Value), BindsTo s fd ⟨[u], []⟩ [("_law_script", u)]) ∧
      ∀ base : Heap, K.In base → base.Ns mainGlobals mg → GOk P w K mg base CX0 3 fa fd ["_law_script"] (spLaw K) := by
  have e := hfa.symm.trans (PySem.W.mg_of X G aLa)
  cases e
  have FBa := fun_mk (st := sBag) lBa cBa kBa
  have bBa := FBa.binds (ps := ["_law_script", "_law_at"]) fun _ _ _ _ _ _ us hl => match us, hl with | [_, _], _ => rfl
  have mBa := PySem.W.mg_of X G aBa
  have FTa := fun_mk (st := sTake) lTa cTa kTa
  have bTa := FTa.binds (ps := ["_law_bag_here", "_law_many"]) fun _ _ _ _ _ _ us hl => match us, hl with | [_, _], _ => rfl
  have mTa := PySem.W.mg_of X G aTa
  have FVa := fun_mk (st := sVal) lVa cVa kVa
  have bVa := FVa.binds (ps := ["_law_bag_here"]) fun _ _ _ _ _ _ us hl => match us, hl with | [_], _ => rfl
  have mVa := PySem.W.mg_of X G aVa
  have FOn := fun_mk (st := sOne) lOn cOn kOn
  have bOn := FOn.binds (ps := ["_law_error"]) fun _ _ _ _ _ _ us hl => match us, hl with | [_], _ => rfl
  have mOn := PySem.W.mg_of X G aOn
  have FVr := fun_mk (st := sVals) lVr cVr kVr
  have bVr := FVr.binds (ps := ["_law_one"]) fun _ _ _ _ _ _ us hl => match us, hl with | [_], _ => rfl
  have mVr := PySem.W.mg_of X G aVr
  have FOt := fun_mk (st := sOth) lOt cOt kOt
  have bOt := FOt.binds (ps := ["_law_one"]) fun _ _ _ _ _ _ us hl => match us, hl with | [_], _ => rfl
  have mOt := PySem.W.mg_of X G aOt
  have FNa := fun_mk (st := sNam) lNa cNa kNa
  have bNa := FNa.binds (ps := ["_law_one"]) fun _ _ _ _ _ _ us hl => match us, hl with | [_], _ => rfl
  have mNa := PySem.W.mg_of X G aNa
  have FLa := fun_mk (st := sLaw) lLa cLa kLa
  have g_len := PySem.W.mg_none_of X G z_len
  have g_range := PySem.W.mg_none_of X G z_range
  have g_max := PySem.W.mg_none_of X G z_max
  have g_min := PySem.W.mg_none_of X G z_min
  have g_isinstance := PySem.W.mg_none_of X G z_isinstance
  have g_all := PySem.W.mg_none_of X G z_all
  have g_repr := PySem.W.mg_none_of X G z_repr
  have g_abs := PySem.W.mg_none_of X G z_abs
  have g_ValueError := PySem.W.mg_none_of X G z_ValueError
  have g_KeyError := PySem.W.mg_none_of X G z_KeyError
  have g_LookupError := PySem.W.mg_none_of X G z_LookupError
  have g_IndexError := PySem.W.mg_none_of X G z_IndexError
  have g_ArithmeticError := PySem.W.mg_none_of X G z_ArithmeticError
  have g_TypeError := PySem.W.mg_none_of X G z_TypeError
  have g_OverflowError := PySem.W.mg_none_of X G z_OverflowError
  have g_RuntimeError := PySem.W.mg_none_of X G z_RuntimeError
  refine ⟨PySem.W.fnOf "law" "law" (defArgs sLaw) (defBody sLaw) (defScope sLaw) .none kVLa dcLa pmLa anLa cdLa ctLa, fun s u => .of_eq rfl, fun base _ _ => ?_⟩
  obtain ⟨c, M⟩ := mM
  have GT := ok_take (P := P) (w := w) (mg := mg) (base := base) FTa
  have GB := ok_bag (P := P) (w := w) (mg := mg) (base := base) FBa g_len g_abs
  have GV := ok_val (P := P) (w := w) (mg := mg) (base := base) FVa GT bTa mTa kTa
  have G1 := ok_one (P := P) (w := w) (mg := mg) (base := base) FOn M g_isinstance
  have GA := ok_vals (P := P) (w := w) (mg := mg) (base := base) FVr M G1 bOn mOn kOn g_isinstance g_all g_repr g_ValueError
  have GO := ok_oth (P := P) (w := w) (mg := mg) (base := base) FOt M G1 bOn mOn kOn g_isinstance g_all g_repr g_KeyError g_LookupError g_IndexError g_ArithmeticError g_TypeError g_OverflowError g_RuntimeError
  have GN := ok_nam (P := P) (w := w) (mg := mg) (base := base) FNa M g_repr
  exact ok_law FLa GB GV GA GO GN bBa mBa kBa bVa mVa kVa bVr mVr kVr bOt mOt kOt bNa mNa kNa g_len g_range g_max g_min
end K21
open PySem PySem.W PyProof.Rows
set_option maxRecDepth 100000 in
set_option maxHeartbeats 0 in
theorem PySem.Challenge.cw_eitherside_k21_errors_holds : PySem.Challenge.rw_eitherside_k21_errors.Holds := by
  w_on; o_law; k_head; (case hw => w_witness2)
  k_fill
  refine Vr.end_of (l := PySem.Challenge.rw_eitherside_k21_errors) (n := 63) (k := 3) (x := "_law_script") (sp := K21.spLaw) rfl (by decide) rfl ⟨rfl, by decide, by decide⟩ (fun w h Y => PySem.W.kIn_of Y) ?F (fun K H a ns hl _ hS => ⟨a, ns, rfl, hS, hl, fun _ => rfl⟩)
  case F =>
    intro w mg fa h KX G hmg
    refine' K21.all_mk KX G hmg ?aBa ?lBa ?cBa ?kBa ?aTa ?lTa ?cTa ?kTa ?aVa ?lVa ?cVa ?kVa ?aOn ?lOn ?cOn ?kOn ?aVr ?lVr ?cVr ?kVr ?aOt ?lOt ?cOt ?kOt ?aNa ?lNa ?cNa ?kNa ?aLa ?lLa ?cLa ?kLa ?z_len ?z_range ?z_max ?z_min ?z_isinstance ?z_all ?z_repr ?z_abs ?z_ValueError ?z_KeyError ?z_LookupError ?z_IndexError ?z_ArithmeticError ?z_TypeError ?z_OverflowError ?z_RuntimeError ?mM
    (case aBa => k_is)
    (case lBa => k_is)
    (case cBa => k_is)
    (case kBa => k_is)
    (case aTa => k_is)
    (case lTa => k_is)
    (case cTa => k_is)
    (case kTa => k_is)
    (case aVa => k_is)
    (case lVa => k_is)
    (case cVa => k_is)
    (case kVa => k_is)
    (case aOn => k_is)
    (case lOn => k_is)
    (case cOn => k_is)
    (case kOn => k_is)
    (case aVr => k_is)
    (case lVr => k_is)
    (case cVr => k_is)
    (case kVr => k_is)
    (case aOt => k_is)
    (case lOt => k_is)
    (case cOt => k_is)
    (case kOt => k_is)
    (case aNa => k_is)
    (case lNa => k_is)
    (case cNa => k_is)
    (case kNa => k_is)
    (case aLa => k_is)
    (case lLa => k_is)
    (case cLa => k_is)
    (case kLa => k_is)
    (case z_len => k_is)
    (case z_range => k_is)
    (case z_max => k_is)
    (case z_min => k_is)
    (case z_isinstance => k_is)
    (case z_all => k_is)
    (case z_repr => k_is)
    (case z_abs => k_is)
    (case z_ValueError => k_is)
    (case z_KeyError => k_is)
    (case z_LookupError => k_is)
    (case z_IndexError => k_is)
    (case z_ArithmeticError => k_is)
    (case z_TypeError => k_is)
    (case z_OverflowError => k_is)
    (case z_RuntimeError => k_is)
    (case mM => 
      refine' K21.mod_ofS ?tp ?su ?pt ?hs ?ht (fun tp su pt hs ht => ?big)
      (case tp => k_is)
      (case su => k_is)
      (case pt => first | rfl | decide +kernel | k_is)
      (case hs => k_is)
      (case ht => k_is)
      refine' K21.mod_of ?h0 ?h1 ?h2 ?h3 ?h4 ?h5 ?h6 ?h7 ?h8 ?h9 ?h10 ?h11
      (case h0 =>
        refine' K21.ownF_mk KX G 0 (n := "NoBook") (f := "position") (qual := "NoBook.__init__") (lit := "not the entries of a book") rfl rfl rfl rfl K21.sbVE tp su pt hs ht ?a ?x ?sa ?no ?ga ?gg ?ic ?tc ?kc ?ha (fun _ _ _ _ _ _ _ _ _ _ _ => by rfl) (fun _ _ _ _ _ _ _ _ _ _ _ => by rfl) ⟨by rfl, by rfl, by rfl, by rfl⟩ (by decide +kernel) (by decide +kernel) (p1 := ⟨4, 17, 4, 21⟩) (p2 := ⟨4, 23, 4, 31⟩) (q1 := ⟨5, 8, 5, 13⟩) (q2 := ⟨5, 8, 5, 15⟩) (q3 := ⟨5, 8, 5, 24⟩) (q4 := ⟨5, 25, 5, 52⟩) (q5 := ⟨5, 8, 5, 53⟩) (q6 := ⟨5, 8, 5, 53⟩) (q7 := ⟨6, 8, 6, 12⟩) (q8 := ⟨6, 8, 6, 21⟩) (q9 := ⟨6, 24, 6, 32⟩) (qa := ⟨6, 8, 6, 32⟩) ?lI (by decide +kernel) ?cI ?lc ?ld ?lv ?lf
        (case a => k_is)
        (case x => k_is)
        (case sa => k_is)
        (case no => k_is)
        (case ga => k_is)
        (case gg => k_is)
        (case ic => k_is)
        (case tc => k_is)
        (case kc => k_is)
        (case ha => k_is)
        (case lI => k_is)
        (case cI => k_is)
        (case lc => k_is)
        (case ld => k_is)
        (case lv => first | rfl | k_is)
        (case lf => first | rfl | decide +kernel | k_is)
      )
      (case h1 =>
        refine' K21.ownF_mk KX G 1 (n := "NoChange") (f := "change") (qual := "NoChange.__init__") (lit := "not a change of the table") rfl rfl rfl rfl K21.sbAE tp su pt hs ht ?a ?x ?sa ?no ?ga ?gg ?ic ?tc ?kc ?ha (fun _ _ _ _ _ _ _ _ _ _ _ => by rfl) (fun _ _ _ _ _ _ _ _ _ _ _ => by rfl) ⟨by rfl, by rfl, by rfl, by rfl⟩ (by decide +kernel) (by decide +kernel) (p1 := ⟨39, 17, 39, 21⟩) (p2 := ⟨39, 23, 39, 29⟩) (q1 := ⟨40, 8, 40, 13⟩) (q2 := ⟨40, 8, 40, 15⟩) (q3 := ⟨40, 8, 40, 24⟩) (q4 := ⟨40, 25, 40, 52⟩) (q5 := ⟨40, 8, 40, 53⟩) (q6 := ⟨40, 8, 40, 53⟩) (q7 := ⟨41, 8, 41, 12⟩) (q8 := ⟨41, 8, 41, 19⟩) (q9 := ⟨41, 22, 41, 28⟩) (qa := ⟨41, 8, 41, 28⟩) ?lI (by decide +kernel) ?cI ?lc ?ld ?lv ?lf
        (case a => k_is)
        (case x => k_is)
        (case sa => k_is)
        (case no => k_is)
        (case ga => k_is)
        (case gg => k_is)
        (case ic => k_is)
        (case tc => k_is)
        (case kc => k_is)
        (case ha => k_is)
        (case lI => k_is)
        (case cI => k_is)
        (case lc => k_is)
        (case ld => k_is)
        (case lv => first | rfl | k_is)
        (case lf => first | rfl | decide +kernel | k_is)
      )
      (case h2 =>
        refine' K21.ownF_mk KX G 2 (n := "NoClaim") (f := "claim") (qual := "NoClaim.__init__") (lit := "not a claim") rfl rfl rfl rfl K21.sbVE tp su pt hs ht ?a ?x ?sa ?no ?ga ?gg ?ic ?tc ?kc ?ha (fun _ _ _ _ _ _ _ _ _ _ _ => by rfl) (fun _ _ _ _ _ _ _ _ _ _ _ => by rfl) ⟨by rfl, by rfl, by rfl, by rfl⟩ (by decide +kernel) (by decide +kernel) (p1 := ⟨44, 17, 44, 21⟩) (p2 := ⟨44, 23, 44, 28⟩) (q1 := ⟨45, 8, 45, 13⟩) (q2 := ⟨45, 8, 45, 15⟩) (q3 := ⟨45, 8, 45, 24⟩) (q4 := ⟨45, 25, 45, 38⟩) (q5 := ⟨45, 8, 45, 39⟩) (q6 := ⟨45, 8, 45, 39⟩) (q7 := ⟨46, 8, 46, 12⟩) (q8 := ⟨46, 8, 46, 18⟩) (q9 := ⟨46, 21, 46, 26⟩) (qa := ⟨46, 8, 46, 26⟩) ?lI (by decide +kernel) ?cI ?lc ?ld ?lv ?lf
        (case a => k_is)
        (case x => k_is)
        (case sa => k_is)
        (case no => k_is)
        (case ga => k_is)
        (case gg => k_is)
        (case ic => k_is)
        (case tc => k_is)
        (case kc => k_is)
        (case ha => k_is)
        (case lI => k_is)
        (case cI => k_is)
        (case lc => k_is)
        (case ld => k_is)
        (case lv => first | rfl | k_is)
        (case lf => first | rfl | decide +kernel | k_is)
      )
      (case h3 =>
        refine' K21.ownF_mk KX G 3 (n := "NoClass") (f := "name") (qual := "NoClass.__init__") (lit := "not a class") rfl rfl rfl rfl K21.sbKE tp su pt hs ht ?a ?x ?sa ?no ?ga ?gg ?ic ?tc ?kc ?ha (fun _ _ _ _ _ _ _ _ _ _ _ => by rfl) (fun _ _ _ _ _ _ _ _ _ _ _ => by rfl) ⟨by rfl, by rfl, by rfl, by rfl⟩ (by decide +kernel) (by decide +kernel) (p1 := ⟨9, 17, 9, 21⟩) (p2 := ⟨9, 23, 9, 27⟩) (q1 := ⟨10, 8, 10, 13⟩) (q2 := ⟨10, 8, 10, 15⟩) (q3 := ⟨10, 8, 10, 24⟩) (q4 := ⟨10, 25, 10, 38⟩) (q5 := ⟨10, 8, 10, 39⟩) (q6 := ⟨10, 8, 10, 39⟩) (q7 := ⟨11, 8, 11, 12⟩) (q8 := ⟨11, 8, 11, 17⟩) (q9 := ⟨11, 20, 11, 24⟩) (qa := ⟨11, 8, 11, 24⟩) ?lI (by decide +kernel) ?cI ?lc ?ld ?lv ?lf
        (case a => k_is)
        (case x => k_is)
        (case sa => k_is)
        (case no => k_is)
        (case ga => k_is)
        (case gg => k_is)
        (case ic => k_is)
        (case tc => k_is)
        (case kc => k_is)
        (case ha => k_is)
        (case lI => k_is)
        (case cI => k_is)
        (case lc => k_is)
        (case ld => k_is)
        (case lv => first | rfl | k_is)
        (case lf => first | rfl | decide +kernel | k_is)
      )
      (case h4 =>
        refine' K21.own0_mk KX G 4 (n := "NoCommand") (qual := "NoCommand.__init__") rfl rfl rfl K21.sbTE tp su pt hs ht ?a ?x ?ga ?gg ?ic ?tc ?kc ?ha (fun _ _ _ _ _ _ _ _ _ => by rfl) (p1 := ⟨54, 17, 54, 21⟩) (q1 := ⟨55, 8, 55, 13⟩) (q2 := ⟨55, 8, 55, 15⟩) (q3 := ⟨55, 8, 55, 24⟩) (q5 := ⟨55, 8, 55, 26⟩) (q6 := ⟨55, 8, 55, 26⟩) ?lI (by decide +kernel) ?cI ?lc ?ld ?lv ?lf
        (case a => k_is)
        (case x => k_is)
        (case ga => k_is)
        (case gg => k_is)
        (case ic => k_is)
        (case tc => k_is)
        (case kc => k_is)
        (case ha => k_is)
        (case lI => k_is)
        (case cI => k_is)
        (case lc => k_is)
        (case ld => k_is)
        (case lv => first | rfl | k_is)
        (case lf => first | rfl | decide +kernel | k_is)
      )
      (case h5 =>
        refine' K21.ownF_mk KX G 5 (n := "NoOutcome") (f := "outcome") (qual := "NoOutcome.__init__") (lit := "no bracketing has this outcome") rfl rfl rfl rfl K21.sbLE tp su pt hs ht ?a ?x ?sa ?no ?ga ?gg ?ic ?tc ?kc ?ha (fun _ _ _ _ _ _ _ _ _ _ _ => by rfl) (fun _ _ _ _ _ _ _ _ _ _ _ => by rfl) ⟨by rfl, by rfl, by rfl, by rfl⟩ (by decide +kernel) (by decide +kernel) (p1 := ⟨29, 17, 29, 21⟩) (p2 := ⟨29, 23, 29, 30⟩) (q1 := ⟨30, 8, 30, 13⟩) (q2 := ⟨30, 8, 30, 15⟩) (q3 := ⟨30, 8, 30, 24⟩) (q4 := ⟨30, 25, 30, 57⟩) (q5 := ⟨30, 8, 30, 58⟩) (q6 := ⟨30, 8, 30, 58⟩) (q7 := ⟨31, 8, 31, 12⟩) (q8 := ⟨31, 8, 31, 20⟩) (q9 := ⟨31, 23, 31, 30⟩) (qa := ⟨31, 8, 31, 30⟩) ?lI (by decide +kernel) ?cI ?lc ?ld ?lv ?lf
        (case a => k_is)
        (case x => k_is)
        (case sa => k_is)
        (case no => k_is)
        (case ga => k_is)
        (case gg => k_is)
        (case ic => k_is)
        (case tc => k_is)
        (case kc => k_is)
        (case ha => k_is)
        (case lI => k_is)
        (case cI => k_is)
        (case lc => k_is)
        (case ld => k_is)
        (case lv => first | rfl | k_is)
        (case lf => first | rfl | decide +kernel | k_is)
      )
      (case h6 =>
        refine' K21.ownF_mk KX G 6 (n := "NoPattern") (f := "pattern") (qual := "NoPattern.__init__") (lit := "not a pattern") rfl rfl rfl rfl K21.sbVE tp su pt hs ht ?a ?x ?sa ?no ?ga ?gg ?ic ?tc ?kc ?ha (fun _ _ _ _ _ _ _ _ _ _ _ => by rfl) (fun _ _ _ _ _ _ _ _ _ _ _ => by rfl) ⟨by rfl, by rfl, by rfl, by rfl⟩ (by decide +kernel) (by decide +kernel) (p1 := ⟨24, 17, 24, 21⟩) (p2 := ⟨24, 23, 24, 30⟩) (q1 := ⟨25, 8, 25, 13⟩) (q2 := ⟨25, 8, 25, 15⟩) (q3 := ⟨25, 8, 25, 24⟩) (q4 := ⟨25, 25, 25, 40⟩) (q5 := ⟨25, 8, 25, 41⟩) (q6 := ⟨25, 8, 25, 41⟩) (q7 := ⟨26, 8, 26, 12⟩) (q8 := ⟨26, 8, 26, 20⟩) (q9 := ⟨26, 23, 26, 30⟩) (qa := ⟨26, 8, 26, 30⟩) ?lI (by decide +kernel) ?cI ?lc ?ld ?lv ?lf
        (case a => k_is)
        (case x => k_is)
        (case sa => k_is)
        (case no => k_is)
        (case ga => k_is)
        (case gg => k_is)
        (case ic => k_is)
        (case tc => k_is)
        (case kc => k_is)
        (case ha => k_is)
        (case lI => k_is)
        (case cI => k_is)
        (case lc => k_is)
        (case ld => k_is)
        (case lv => first | rfl | k_is)
        (case lf => first | rfl | decide +kernel | k_is)
      )
      (case h7 =>
        refine' K21.ownF_mk KX G 7 (n := "NoRank") (f := "rank") (qual := "NoRank.__init__") (lit := "no bracketing has this rank") rfl rfl rfl rfl K21.sbIE tp su pt hs ht ?a ?x ?sa ?no ?ga ?gg ?ic ?tc ?kc ?ha (fun _ _ _ _ _ _ _ _ _ _ _ => by rfl) (fun _ _ _ _ _ _ _ _ _ _ _ => by rfl) ⟨by rfl, by rfl, by rfl, by rfl⟩ (by decide +kernel) (by decide +kernel) (p1 := ⟨34, 17, 34, 21⟩) (p2 := ⟨34, 23, 34, 27⟩) (q1 := ⟨35, 8, 35, 13⟩) (q2 := ⟨35, 8, 35, 15⟩) (q3 := ⟨35, 8, 35, 24⟩) (q4 := ⟨35, 25, 35, 54⟩) (q5 := ⟨35, 8, 35, 55⟩) (q6 := ⟨35, 8, 35, 55⟩) (q7 := ⟨36, 8, 36, 12⟩) (q8 := ⟨36, 8, 36, 17⟩) (q9 := ⟨36, 20, 36, 24⟩) (qa := ⟨36, 8, 36, 24⟩) ?lI (by decide +kernel) ?cI ?lc ?ld ?lv ?lf
        (case a => k_is)
        (case x => k_is)
        (case sa => k_is)
        (case no => k_is)
        (case ga => k_is)
        (case gg => k_is)
        (case ic => k_is)
        (case tc => k_is)
        (case kc => k_is)
        (case ha => k_is)
        (case lI => k_is)
        (case cI => k_is)
        (case lc => k_is)
        (case ld => k_is)
        (case lv => first | rfl | k_is)
        (case lf => first | rfl | decide +kernel | k_is)
      )
      (case h8 =>
        refine' K21.ownF_mk KX G 8 (n := "NoRow") (f := "row") (qual := "NoRow.__init__") (lit := "not a row") rfl rfl rfl rfl K21.sbVE tp su pt hs ht ?a ?x ?sa ?no ?ga ?gg ?ic ?tc ?kc ?ha (fun _ _ _ _ _ _ _ _ _ _ _ => by rfl) (fun _ _ _ _ _ _ _ _ _ _ _ => by rfl) ⟨by rfl, by rfl, by rfl, by rfl⟩ (by decide +kernel) (by decide +kernel) (p1 := ⟨14, 17, 14, 21⟩) (p2 := ⟨14, 23, 14, 26⟩) (q1 := ⟨15, 8, 15, 13⟩) (q2 := ⟨15, 8, 15, 15⟩) (q3 := ⟨15, 8, 15, 24⟩) (q4 := ⟨15, 25, 15, 36⟩) (q5 := ⟨15, 8, 15, 37⟩) (q6 := ⟨15, 8, 15, 37⟩) (q7 := ⟨16, 8, 16, 12⟩) (q8 := ⟨16, 8, 16, 16⟩) (q9 := ⟨16, 19, 16, 22⟩) (qa := ⟨16, 8, 16, 22⟩) ?lI (by decide +kernel) ?cI ?lc ?ld ?lv ?lf
        (case a => k_is)
        (case x => k_is)
        (case sa => k_is)
        (case no => k_is)
        (case ga => k_is)
        (case gg => k_is)
        (case ic => k_is)
        (case tc => k_is)
        (case kc => k_is)
        (case ha => k_is)
        (case lI => k_is)
        (case cI => k_is)
        (case lc => k_is)
        (case ld => k_is)
        (case lv => first | rfl | k_is)
        (case lf => first | rfl | decide +kernel | k_is)
      )
      (case h9 =>
        refine' K21.ownF_mk KX G 9 (n := "NoText") (f := "position") (qual := "NoText.__init__") (lit := "not such a text") rfl rfl rfl rfl K21.sbVE tp su pt hs ht ?a ?x ?sa ?no ?ga ?gg ?ic ?tc ?kc ?ha (fun _ _ _ _ _ _ _ _ _ _ _ => by rfl) (fun _ _ _ _ _ _ _ _ _ _ _ => by rfl) ⟨by rfl, by rfl, by rfl, by rfl⟩ (by decide +kernel) (by decide +kernel) (p1 := ⟨49, 17, 49, 21⟩) (p2 := ⟨49, 23, 49, 31⟩) (q1 := ⟨50, 8, 50, 13⟩) (q2 := ⟨50, 8, 50, 15⟩) (q3 := ⟨50, 8, 50, 24⟩) (q4 := ⟨50, 25, 50, 42⟩) (q5 := ⟨50, 8, 50, 43⟩) (q6 := ⟨50, 8, 50, 43⟩) (q7 := ⟨51, 8, 51, 12⟩) (q8 := ⟨51, 8, 51, 21⟩) (q9 := ⟨51, 24, 51, 32⟩) (qa := ⟨51, 8, 51, 32⟩) ?lI (by decide +kernel) ?cI ?lc ?ld ?lv ?lf
        (case a => k_is)
        (case x => k_is)
        (case sa => k_is)
        (case no => k_is)
        (case ga => k_is)
        (case gg => k_is)
        (case ic => k_is)
        (case tc => k_is)
        (case kc => k_is)
        (case ha => k_is)
        (case lI => k_is)
        (case cI => k_is)
        (case lc => k_is)
        (case ld => k_is)
        (case lv => first | rfl | k_is)
        (case lf => first | rfl | decide +kernel | k_is)
      )
      (case h10 =>
        refine' K21.ownF_mk KX G 10 (n := "NoTree") (f := "tree") (qual := "NoTree.__init__") (lit := "not a tree") rfl rfl rfl rfl K21.sbVE tp su pt hs ht ?a ?x ?sa ?no ?ga ?gg ?ic ?tc ?kc ?ha (fun _ _ _ _ _ _ _ _ _ _ _ => by rfl) (fun _ _ _ _ _ _ _ _ _ _ _ => by rfl) ⟨by rfl, by rfl, by rfl, by rfl⟩ (by decide +kernel) (by decide +kernel) (p1 := ⟨19, 17, 19, 21⟩) (p2 := ⟨19, 23, 19, 27⟩) (q1 := ⟨20, 8, 20, 13⟩) (q2 := ⟨20, 8, 20, 15⟩) (q3 := ⟨20, 8, 20, 24⟩) (q4 := ⟨20, 25, 20, 37⟩) (q5 := ⟨20, 8, 20, 38⟩) (q6 := ⟨20, 8, 20, 38⟩) (q7 := ⟨21, 8, 21, 12⟩) (q8 := ⟨21, 8, 21, 17⟩) (q9 := ⟨21, 20, 21, 24⟩) (qa := ⟨21, 8, 21, 24⟩) ?lI (by decide +kernel) ?cI ?lc ?ld ?lv ?lf
        (case a => k_is)
        (case x => k_is)
        (case sa => k_is)
        (case no => k_is)
        (case ga => k_is)
        (case gg => k_is)
        (case ic => k_is)
        (case tc => k_is)
        (case kc => k_is)
        (case ha => k_is)
        (case lI => k_is)
        (case cI => k_is)
        (case lc => k_is)
        (case ld => k_is)
        (case lv => first | rfl | k_is)
        (case lf => first | rfl | decide +kernel | k_is)
      )
      (case h11 =>
        refine' K21.own0_mk KX G 11 (n := "NothingToUndo") (qual := "NothingToUndo.__init__") rfl rfl rfl K21.sbRE tp su pt hs ht ?a ?x ?ga ?gg ?ic ?tc ?kc ?ha (fun _ _ _ _ _ _ _ _ _ => by rfl) (p1 := ⟨58, 17, 58, 21⟩) (q1 := ⟨59, 8, 59, 13⟩) (q2 := ⟨59, 8, 59, 15⟩) (q3 := ⟨59, 8, 59, 24⟩) (q5 := ⟨59, 8, 59, 26⟩) (q6 := ⟨59, 8, 59, 26⟩) ?lI (by decide +kernel) ?cI ?lc ?ld ?lv ?lf
        (case a => k_is)
        (case x => k_is)
        (case ga => k_is)
        (case gg => k_is)
        (case ic => k_is)
        (case tc => k_is)
        (case kc => k_is)
        (case ha => k_is)
        (case lI => k_is)
        (case cI => k_is)
        (case lc => k_is)
        (case ld => k_is)
        (case lv => first | rfl | k_is)
        (case lf => first | rfl | decide +kernel | k_is)
      )
    )
