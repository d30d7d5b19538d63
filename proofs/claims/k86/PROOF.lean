import PyProof.Rows.All
import Wide.All
import OpenK.AllK
import Wide.FinOn
import HandS.ForMost
import HandS.IsInst
import HandS.Style
import PyProof.ReprRoads
import KE.KSuper
import KE.KExcSuper
import HandS.ExcField
import HandS.ExcOwn
import HandS.ExcInit
import PyProof.Rows.Own
import HandS.ExcIs
import HandS.Walk
import HandS.TupLe
import PyProof.StrLawsRepr
import HandS.FStrTup
import HandS.ReplaceList
import HandS.ReplaceLit
import HandS.ReplaceDef
import HandS.WordsExc
import HandS.Text
import HandS.RaiseMore
import HandS.TryOnly
import PySem.Challenge.RW_eitherside_k86_texts_near_trees
set_option Elab.async false
set_option linter.all false
set_option maxRecDepth 100000
set_option maxHeartbeats 8000000
/-! repr of data, where no repr is under way around the def: the promise of a def is asked only at such arounds. -/
namespace Vr
open PySem PySem.Spec PyProof.Rows L2
section
variable {X : Cx}
/-- repr(x), x any data without dicts -/
def rReprD (K : PySem.W.Frag) : List V → Hp → VK → Prop := fun xs H Q =>
  ∃ (x : V) (d : PyData), xs = [x] ∧ Dp K H x d ∧ SeqAt.shaped d = true ∧ d.showable = true ∧ d.shown.length ≤ sizeLine ∧ Q (.str d.shown) H
theorem call_reprD {k : Nat} (hg : X.A.guards = some []) (hr : Room k X.A) : CallR X (.builtin "repr") (rReprD X.K) := by
  intro pins s σ H xs us Q I r h
  obtain ⟨x, d, rfl, hd, hs, hw, hz, q⟩ := h
  obtain ⟨u, rfl, ru⟩ := vals1 r
  have nd : d.hasDict = false := PyData.hasDict_of_canLay d (SeqAt.canLay_of_shaped hs)
  have dd := SeqAt.depth_of_shaped hs
  have un := hr.un
  cases hd with
  | non =>
    cases (show u = Value.none from ru)
    exact PySem.P.repr_of_none ⟨.str _, H, I.tok _, ⟨_, rfl⟩, q⟩
  | bl b =>
    cases (show u = Value.bool b from ru)
    exact PySem.P.repr_of_bool ⟨.str _, H, I.tok _, ⟨_, rfl⟩, q⟩
  | int i =>
    obtain ⟨t, e⟩ := (show ∃ t, u = Value.int i t from ru)
    subst e
    exact PySem.P.repr_of_int (by simpa [PyData.showable] using hw) ⟨.str _, H, I.tok _, ⟨_, rfl⟩, q⟩
  | str y =>
    obtain ⟨t, e⟩ := (show ∃ t, u = Value.str y t from ru)
    subst e
    exact PySem.P.repr_of_str ⟨.str _, H, I.tok _, ⟨_, rfl⟩, q⟩ hz
  | @lst a ys ds h1 h2 =>
    cases (show u = Value.ref a from ru)
    obtain ⟨as, rd⟩ := Dp.reads I _ _ _ (Dp.lst h1 h2) (show RelV (.ref a) (.ref a) from rfl)
    refine repr_of_reads' rd hw (fun z => ?_) hg (by omega) (fun _ _ e => e) (fun h' t tk hk => ?_) hz
    · rw [nd] at z
      cases z
    · exact ⟨.str _, H, I.kept hk, ⟨t, rfl⟩, q⟩
  | @tup a ys ds h1 h2 =>
    cases (show u = Value.ref a from ru)
    obtain ⟨as, rd⟩ := Dp.reads I _ _ _ (Dp.tup h1 h2) (show RelV (.ref a) (.ref a) from rfl)
    refine repr_of_reads' rd hw (fun z => ?_) hg (by omega) (fun _ _ e => e) (fun h' t tk hk => ?_) hz
    · rw [nd] at z
      cases z
    · exact ⟨.str _, H, I.kept hk, ⟨t, rfl⟩, q⟩
end

/-- a def's promise, asked only where no repr is under way -/
structure GOk (P : Program) (w : World) (K : PySem.W.Frag) (mg : Str → Option Value)
    (base : Heap) (CX : CXT) (k : Nat) (f : Addr) (fd : FuncData) (ps : List Str) (sp : Sp) : Prop where
  len : ∀ vs H Q E, sp vs H Q E → vs.length = ps.length
  run : ∀ (A : Around) (outer : List Env) (s : Shared) (H : Hp) (args : Args) (us : List Value) (vs : List V) (Q : VK) (E : XK),
    A.guards = some [] → Room k A → Env0 P w K mg base A outer s H → BindsTo s fd args (ps.zip us) → Vals vs us → sp vs H Q E →
      codeAny (model P w) A (.call (.ref f) args) (CR CX outer P w H s Q E) s

section
variable {P : Program} {w : World} {K : PySem.W.Frag} {mg : Str → Option Value} {base : Heap} {CX : CXT} {k : Nat}
theorem GOk.of {f : Addr} {fd : FuncData} {ps : List Str} {sp : Sp} (F : FnOk P w K mg base CX k f fd ps sp) : GOk P w K mg base CX k f fd ps sp :=
  { len := F.len, run := fun A outer s H args us vs Q E _ => F.run A outer s H args us vs Q E }

/-- the body's derivation may use that no repr is under way -/
theorem gok_of {f : Addr} {name qual : Str} {params : Arguments} {body : List Stmt} {scope : Scope} {dV kV doc pm cdv ct oc : Value} {an od : Option Addr}
    {osl : Array (Option Value)} {N ps : List Str} {sp : Sp}
    (lk : K.lookup f = some ⟨oc, od, .func (PySem.W.fnOf name qual params body scope dV kV doc pm an cdv ct), osl⟩)
    (hcd : PySem.W.codeIn K cdv qual = true) (S : FnScope N ps scope) (len : ∀ vs H Q E, sp vs H Q E → vs.length = ps.length)
    (hbody : ∀ (A : Around) (outer : List Env) (s : Shared) (H : Hp) (vs : List V) (Q : VK) (E : XK), A.guards = some [] →
      Room k (A.deeper (envOfC qual scope s.heap.objs.size f cdv)) → sp vs H Q E →
      ∃ t, PSs (cxOf CX P w K mg base N qual scope f cdv A outer s H E) body t ∧ t { nx := fun _ H' => Q .non H', rt := Q } (start N vs) H) :
    GOk P w K mg base CX (k + 1) f (PySem.W.fnOf name qual params body scope dV kV doc pm an cdv ct) ps sp where
  len := len
  run := by
    intro A outer s H args us vs Q E gA room e0 bind rel prom
    have lenV := len vs H Q E prom
    have old : ∀ b o, base.get? b = some o → s.heap.get? b = some o := fun b o e => (e0.bs b o e).1
    have inK : K.In s.heap := e0.mod.kin.keeps old
    have nolim : s.heap.NoLimit := e0.mod.nolimit.keeps old
    refine codeAny_call_function room.depth (inK f _ lk) rfl S.co S.gen rfl (PySem.W.codeRec_of inK hcd) (bind _ _ _ _ ?_)
    refine wpAny_newFunctionEnv_cells S.kind ?_ ?_
    · intro ⟨n, v⟩ mem
      cases S.par n (List.of_mem_zip mem).1 with
      | inl q => exact Or.inl q
      | inr q => exact Or.inr ⟨q, PySem.W.cellsFrom_some _ _ _ (Or.inl q)⟩
    · intro env eenv s1 inCall
      cases eenv
      refine ⟨nolim.keeps inCall.toInCall.keep, codeAny_func ?_⟩
      obtain ⟨t, der, rd⟩ := hbody A outer s H vs Q E gA (room.deeper _) prom
      have start0 := inv_start (CX := CX) (E := E) S room.hd e0 lenV rel inCall
      refine wpAny_mono (der.run [] s1 (start N vs) H _ start0 rd) ?_ (fun _ _ x => x)
      intro flow s' done
      cases flow with
      | ret u =>
        obtain ⟨v, σ', H', J, rv, q⟩ := done
        exact ⟨v, H', J.os, J.bare, J.base, J.hok, rv, q⟩
      | next =>
        obtain ⟨σ', H', J, q⟩ := done
        exact ⟨V.non, H', J.os, J.bare, J.base, J.hok, rfl, q⟩
      | brk =>
        obtain ⟨_, _, _, q⟩ := done
        exact q.elim
      | cont =>
        obtain ⟨_, _, _, q⟩ := done
        exact q.elim
end
end Vr
namespace Vr
open PySem PySem.Spec PyProof.Rows L2
/-- the row's end, from a promise of the law's def that is asked where no repr is under way -/
theorem end_of {l : PySem.W.OpenLaw} {n k : Nat} {q : Program} {loose : List Str} {XP : (Str → Option Value) → Heap → Prop}
    {YP : World → Heap → Prop} {d : DefRec} {K : Params → PySem.W.Frag} {sp : PySem.W.Frag → Sp} {x : Str}
    (hn : l.most = some n) (small : n ≤ sizeLine) (nod : d.params.defaults = []) (room : Room k callerA)
    (inK : ∀ (w : World) (h : Heap), YP w h → (K w.params).In h)
    (F : ∀ (w : World) (mg : Str → Option Value) (fa : Addr) (h : Heap), (K w.params).In h → h.Ns mainGlobals mg → mg d.name = some (.ref fa) →
      ∃ fd : FuncData, (∀ (s : Shared) (u : Value), BindsTo s fd ⟨[u], []⟩ [(x, u)]) ∧
        ∀ base : Heap, (K w.params).In base → base.Ns mainGlobals mg → GOk l.prog w (K w.params) mg base CX0 k fa fd [x] (sp (K w.params)))
    (prom : ∀ (K : PySem.W.Frag) (H : Hp) (a : Addr) (ns : List Int), ns.length ≤ n → Only H → SqL K H a (ns.map V.int) →
      sp K [.ref a] H (fun v _ => v = .bl true) fun _ _ _ => False) :
    PySem.W.WalkO q loose XP YP l.row.toRowW d [] (fun f vs => PySem.call f vs) := by
  refine Att.attach_call hn nod ?_
  intro w s₀ s₁ mg mb fa o pm cd doc a vs ns G Y ho hd hcd hmg hobj hints hlen gens
  have KX := inK w _ Y
  obtain ⟨fd, hb, hF⟩ := F w mg fa _ KX G.T.g hmg
  have rel : Vals (ns.map V.int) vs := vals_ints hints
  have len2 : (ns.map V.int).length ≤ sizeLine := by
    rw [List.length_map]
    exact Nat.le_trans hlen small
  generalize hU : (HO.frz { cls := .type "list", data := .seq vs.toArray } (.lst (ns.map V.int))) = U
  obtain ⟨H, hH⟩ : ∃ H : Hp, ∀ b, H b = if b = a ∧ (K w.params).lookup a = none then some U else none := ⟨_, fun _ => rfl⟩
  have tr : ∀ b u, H b = some u → b = a ∧ (K w.params).lookup a = none ∧ u = U := by
    intro b u e
    rw [hH] at e
    by_cases c : b = a ∧ (K w.params).lookup a = none
    · rw [if_pos c] at e
      cases e
      exact ⟨c.1, c.2, rfl⟩
    · rw [if_neg c] at e
      cases e
  have untr : ∀ b, (H b = none → False) → b = a ∧ (K w.params).lookup a = none := by
    intro b z
    cases e : H b with
    | none => exact (z e).elim
    | some u => exact ⟨(tr b u e).1, (tr b u e).2.1⟩
  have hok : HOk l.prog w H s₁.heap := by
    intro b u e
    obtain ⟨rfl, _, rfl⟩ := tr b u e
    rw [← hU]
    exact ⟨hobj, len2, vs, _, rel, hobj⟩
  have only : Only H := by
    intro b
    cases e : H b with
    | none => exact Or.inl rfl
    | some u =>
      have e2 := (tr b u e).2.2
      rw [← hU] at e2
      exact Or.inr ⟨_, _, congrArg some e2⟩
  have here : SqL (K w.params) H a (ns.map V.int) := by
    cases e : (K w.params).lookup a with
    | none =>
      have e2 := hH a
      rw [if_pos ⟨rfl, e⟩, ← hU] at e2
      exact Or.inl (Or.inr ⟨_, e2⟩)
    | some o' =>
      have e2 := KX a o' e
      rw [hobj] at e2
      cases e2
      refine Or.inr ⟨_, vs.toArray, _, e, rfl, rfl, rfl, ?_, by simpa using rel⟩
      rw [List.size_toArray, hints.length]
      exact Nat.le_trans hlen small
  have bget : ∀ (b : Addr) (u : Obj), s₁.heap.get? b = some u → H b = none → (hidT s₁.heap H).get? b = some u := fun b u e z => hidT_get e z
  have bns : ∀ (b : Addr) (m : Str → Option Value), s₁.heap.Ns b m → (hidT s₁.heap H).Ns b m := by
    intro b m ⟨u, es, ep, e, hd2, rest⟩
    refine ⟨u, es, ep, bget b u e (Classical.byContradiction fun z => ?_), hd2, rest⟩
    obtain ⟨rfl, _⟩ := untr b z
    rw [hobj] at e
    cases e
    cases (show Data.seq vs.toArray _ = Data.dict es ep from hd2)
  have bK : (K w.params).In (hidT s₁.heap H) := by
    intro b u e
    refine bget b u (KX b u e) (Classical.byContradiction fun z => ?_)
    obtain ⟨rfl, z2⟩ := untr b z
    rw [z2] at e
    cases e
  have md : L2.Mod (K w.params) mg (hidT s₁.heap H) := by
    obtain ⟨mc, c1, c2⟩ := G.T.nolimit
    exact ⟨bK, bns _ _ G.T.g, ⟨mb, bns _ _ G.T.b, G.T.builtins⟩, ⟨mc, bns _ _ c1, c2⟩⟩
  have e0 : Env0 l.prog w (K w.params) mg (hidT s₁.heap H) callerA [] s₁ H :=
    { frames := rfl, mod := md, bs := fun b u e => of_hidT e, bsz := Nat.le_of_eq (hidT_size _ _), funs := trivial
      frf := fun b z => absurd (show b ∈ ([] : List Addr) from z) List.not_mem_nil, hok := hok, bare := AllBare.of_eq gens }
  refine codeAny_mono ((hF _ bK (bns _ _ G.T.g)).run callerA [] s₁ H ⟨[.ref a], []⟩ [.ref a] [.ref a] _ _ rfl room e0 (hb s₁ (.ref a)) (.cons rfl .nil)
    (prom _ H a ns hlen only here)) ?_
  intro r s' fin
  match r, fin with
  | .ok (.ret u), ⟨v, H', os, bare, un, hok', rv, e⟩ =>
    cases (show v = V.bl true from e)
    cases (show u = Value.bool true from rv)
    refine ⟨rfl, OldK.of_keep ?_, os, bare⟩
    intro b ob e1
    cases e2 : H b with
    | none => exact un.keep b ob e1 e2 (fun z => absurd (show b ∈ ([] : List Addr) from z) List.not_mem_nil) List.not_mem_nil
    | some t =>
      have e3 := e2
      rw [(tr b t e2).2.2, ← hU] at e3
      obtain ⟨g1, _⟩ := hok b _ e3
      obtain ⟨g2, _⟩ := hok' b _ (un.frzs b _ _ e3)
      rw [e1] at g1
      cases g1
      exact g2
end Vr
namespace Vr
open PySem PySem.Spec PyProof.Rows L2
section
open Builtin Builtin.List PySem.AutoSeq1
set_option maxRecDepth 8000
/-- xs.extend(t), t a tuple object of any further make -/
theorem meets_extT (l : Addr) (items : Array Value) (n : Nat) (b : Addr) (items2 : Array Value) (n2 : Nat) (dct : Option Addr) (sl : Array (Option Value))
    (long : ¬(!items.isEmpty && Builtin.List.listTooLong (items.size + items2.size)) = true)
    (s1 : items.size ≤ sizeLine) (s2 : items.size + items2.size ≤ sizeLine + 1) :
    Meets (Builtin.«list.extend» ⟨[.ref l, .ref b], []⟩) (fun _ R s =>
      s.heap.get? l = some { cls := .type "list", dict := none, data := .seq items n, slots := #[] } ∧
      s.heap.get? b = some { cls := .type "tuple", dict := dct, data := .seq items2 n2, slots := sl } ∧
      R (.ok (.ret Value.none)) { s with heap := s.heap.update l (Obj.mapSeq fun x => x ++ items2), toks := s.toks }) :=
  .of_wp fun prog w A R s h => by
    obtain ⟨hp, g, d, tk, os⟩ := s
    obtain ⟨hl, hb, h⟩ := h
    have f1 := idx_int
    have f2 := AutoSeq1.sub_tuple_tuple
    have f3 := AutoSeq1.sub_list_list
    have f4 := AutoSeq1.sub_tuple_list
    have f5 := AutoSeq1.sub_list_tuple
    have total : (items ++ items2).size ≤ sizeLine + 1 := by
      rw [Array.size_append]
      exact s2
    wp_walk using (wpAny_updateSeq hl rfl (hz := s1) (_hz' := total)), wpAny_loadPart' hl, wpAny_loadPart' hb
    exact ⟨_, rfl, h⟩
end
section
variable {X : Cx}
def rExtT (K : PySem.W.Frag) : V → List V → Hp → VK → Prop := fun x vs H Q =>
  ∃ (l b : Addr) (xs zs : List V), x = .ref l ∧ vs = [.ref b] ∧ H l = some (.lst xs) ∧ SqT K H b zs ∧ xs.length + zs.length ≤ sizeLine ∧ Q .non (upd H l (.lst (xs ++ zs)))
/-- xs.extend(t), t a tuple -/
theorem mt_extT : MtM X "list.extend" (rExtT X.K) := by
  intro pins s σ H x vs v us Q I rx rv h
  obtain ⟨l, b, xs, zs, rfl, rfl, hl, hb, hz, q⟩ := h
  cases rx
  obtain ⟨u, rfl, ru⟩ := rv.one
  cases ru
  obtain ⟨_, its, n, r, e1, at1⟩ := I.lstM hl
  obtain ⟨its2, r2, ⟨⟨cl, dct, dat, sl⟩, at2, e3, n2, e4⟩, _⟩ := I.tuple hb
  dsimp only at e3 e4
  subst e3 e4
  have e2 : zs.length = its2.length := r2.length
  have both : its.toArray.size + its2.toArray.size ≤ sizeLine := by
    rw [List.size_toArray, List.size_toArray]
    omega
  have long : ¬ (!its.toArray.isEmpty && Builtin.List.listTooLong (its.toArray.size + its2.toArray.size)) = true := by
    rw [notLongL both, Bool.and_false]
    exact Bool.false_ne_true
  refine call_meets F.slot_list_extend ⟨_, at1, rfl⟩ F.entry_list_extend (F.args_list_extend_2 _ _)
    (meets_extT l its.toArray n b its2.toArray n2 dct sl long (Nat.le_trans (Nat.le_add_right _ _) both) (Nat.le_succ_of_le both)) ⟨at1, at2, ?_⟩
  refine ⟨.non, _, I.lset (its' := its ++ its2) hl at1 (by simp) (r.append r2) ?_, rfl, q⟩
  rw [List.length_append]
  exact hz
end
end Vr
namespace VN
open PySem PySem.W PySem.Calls PyProof.Rows PySem.HandSPX
/-- the text of an __init__ that says super().__init__(lit) and self.f = f -/
def nA (f : Str) (p1 p2 : Pos) : Arguments := { posonlyargs := [], args := [{ arg := "self", annotation := none, pos := p1 }, { arg := f, annotation := none, pos := p2 }], vararg := none, kwonlyargs := [], kw_defaults := [], kwarg := none, defaults := [] }
def nB (f lit : Str) (q1 q2 q3 q4 q5 q6 q7 q8 q9 qa : Pos) : List Stmt :=
  [.Expr (.Call (.Attribute (.Call (.Name "super" q1) [] [] q2) "__init__" q3) [.Constant (.str lit) 0 q4] [] q5) q6, .Assign [.Attribute (.Name "self" q7) f q8] (.Name f q9) qa]
def nS (f : Str) : Scope := { kind := .function, names := [(PySem.Str.ofString "self", .local), (f, .local), (PySem.Str.ofString "__class__", .free), (PySem.Str.ofString "super", .globalImplicit)], isGenerator := false, isCoroutine := false, more := [] }
/-- what the written part says of the class at C and of its __init__ at fI -/
structure Txt (prog : Program) (K : Frag) (mg : Str → Option Value) (C fI : Addr) (qual f lit : Str) : Prop where
  cls : ∃ nm q N bs bm sn sub ab col dd k0 k1 k2 k3 k5, K.lookup C = some (excClassObj nm q C N bs bm true sn sub ab col dd k0 k1 k2 k3 k5 "ValueError.__new__") ∧ refsVE bm = true
  sa : findIn K (.ref C) "__setattr__" = some (some (.builtin "object.__setattr__"))
  noN : findIn K (.ref C) f = some none
  iC : findIn K (.ref C) "__init__" = some (some (.ref fI))
  tC : typeIn K (.ref fI) = some (.type "function")
  kC : keepIn K (.ref C) = true
  exC : subIn K (.ref C) (.type "BaseException") = some true
  tyC : typeIn K (.ref C) = some (.type "type")
  veC : subIn K (.ref C) (.type "ValueError") = some true
  up : ks_superIn K C C "__init__" = some (some (.builtin "ValueError.__init__"))
  inC : excInitIn K C [.type "ValueError", .type "Exception", .type "BaseException", .type "object"] "ValueError.__new__" = true
  me : mroIn K C (.ref C) = some true
  tp : nsIn K cStatics "thirdparty.any" = some none
  sup : nsIn K mainGlobals "super" = some none
  top : (prog.main.scope.names.lookup ("super" : Str)).isSome = false
  bd : ∀ (B : List Stmt) (p1 p2 : Pos) (doc pm : Value) (an : Option Addr) (cdv ct : Value) (cc : Addr) (a v : Value), bindArgs (ksFn "__init__" qual (nA f p1 p2) B (nS f) .none .none doc pm an cdv ct cc) ⟨[a, v], []⟩ = pure [(("self" : Str), a), (f, v)]
  lk : (nS f).names.lookup ("self" : Str) = some .local ∧ (nS f).names.lookup f = some .local ∧ (nS f).names.lookup ("__class__" : Str) = some .free ∧ (nS f).names.lookup ("super" : Str) = some .globalImplicit
  sf : (("self" : Str) == f) = false
  db : (f == ("__debug__" : Str)) = false
  fn : ∃ (oc : Value) (od : Option Addr) (doc pm : Value) (an : Option Addr) (cda cc : Addr) (ct : Value) (osl : Array (Option Value)) (p1 p2 q1 q2 q3 q4 q5 q6 q7 q8 q9 qa : Pos),
    K.lookup fI = some ⟨oc, od, .func (ksFn "__init__" qual (nA f p1 p2) (nB f lit q1 q2 q3 q4 q5 q6 q7 q8 q9 qa) (nS f) .none .none doc pm an (.ref cda) ct cc), osl⟩ ∧ codeIn K (.ref cda) qual = true ∧ (q3.endLine == q5.line) = true ∧
    (∃ cl cld csl, K.lookup cc = some ⟨cl, cld, .cell (some (.ref C)), csl⟩) ∧
    (∃ ccl cdd vs ccs file tf, K.lookup cda = some ⟨ccl, cdd, .fields vs, ccs⟩ ∧ vs[2]? = some (.str file tf) ∧ ((prog.main.file : Str) == file) = true)
theorem mro_eq : excTail [.type "ValueError", .type "Exception", .type "BaseException", .type "object"] [.type "ValueError", .type "Exception", .type "BaseException", .type "object"] = true := by decide +kernel
theorem ev_call {env : Env} {o : Expr} {name lit : Str} {q3 q4 q5 : Pos} (hpos : (q3.endLine == q5.line) = true) (hi : importBound o env = pure (some false)) :
    eval (.Call (.Attribute o name q3) [.Constant (.str lit) 0 q4] [] q5) env = (do
      let ov ← attributeBase o name env (eval o env)
      standAt q3.atName
      let (f, first) ← holding [ov] (getMethod ov name (do return (← importBound o env).getD true))
      callWith q5 f first (backTo q5 (starEach [.Constant (.str lit) 0 q4] env)) []) := by
  rw [arm_eval_Call]
  unfold methodCall methodCallPos
  have h2 : ∀ b : Bool, (!b || q3.endLine == q5.line) = true := fun b => by rw [hpos, Bool.or_true]
  simp only [h2, if_true]
  rfl
section
variable {prog : Program} {w : World} {A : Around} {R : Result → Shared → Prop} {s : Shared} {K : Frag} {mg mb : Str → Option Value} {C fI : Addr} {qual f lit : Str} {hp : Heap}
theorem init_run (T : Txt prog K mg C fI qual f lit) {x t0 : Addr} {v : Value} (X₀ : K.In hp) (hg : hp.Ns mainGlobals mg) (hb : hp.Ns builtinsNs mb) (hbb : ∀ y : Str, y ≠ "__name__" → mb y = bootBuiltins y) (hlim : hp.NoLimit)
    (kp : ∀ b o, hp.get? b = some o → s.heap.get? b = some o) (hsz : hp.objs.size ≤ s.heap.objs.size) (hx : s.heap.get? x = some (excO C t0)) (hpx : hp.get? x = none) (hroom : A.depth < recursionLimit)
    (hq : ∀ h' tk dx t1, (∀ b o, hp.get? b = some o → h'.get? b = some o) → h'.get? x = some { cls := .ref C, dict := some dx, data := .fields #[.ref t1, .none, .none, .none, .bool false, .none] } → hp.objs.size ≤ dx → dx ≠ x →
      h'.Ns1 dx (fun y => if y = f then some v else none) → R (.ok (.ret .none)) { s with heap := h', toks := tk }) :
    codeAny (model prog w) A (.call (.ref fI) ⟨[.ref x, v], []⟩) R s := by
  obtain ⟨oc, od, doc, pm, an, cda, cc, ct, osl, p1, p2, q1, q2, q3, q4, q5, q6, q7, q8, q9, qa, ho, hcd, hpos, ⟨cl, cld, csl, hcell⟩, ⟨ccl, cdd, vs, ccs, file, tf, hcode, hvs, hfile⟩⟩ := T.fn
  obtain ⟨nm, q, N, bs, bm, sn, sub, ab, col, dd, k0, k1, k2, k3, k5, hC, hbm⟩ := T.cls
  obtain ⟨lk1, lk2, lk3, lk4⟩ := T.lk
  have Xs : K.In s.heap := X₀.keeps kp
  have hcl : clsIn K C = some { name := nm, bases := bs, mro := .ref C :: bm, ns := N, qualname := q, hasDict := true, slotNames := sn, subclasses := sub, abstract := ab, collection := col, hasDel := false } := by unfold clsIn; rw [hC] <;> rfl
  refine ks_codeAny_call_defAt (fd := ksFn "__init__" qual (nA f p1 p2) (nB f lit q1 q2 q3 q4 q5 q6 q7 q8 q9 qa) (nS f) .none .none doc pm an (.ref cda) ct cc) (binds := [(("self" : Str), .ref x), (f, v)]) hroom (Xs _ _ ho) rfl (hlim.keeps kp) (codeRec_of Xs hcd) rfl
    (BindsTo.of_eq (T.bd _ _ _ _ _ _ _ _ _ _ _)) ?_ ?_ (fun h₁ hns k₁ => ?_) rfl rfl rfl
  · intro y hy
    rcases List.mem_cons.mp hy with rfl | hy
    · exact fun z => NameKind.noConfusion z
    rcases List.mem_cons.mp hy with rfl | hy
    · exact fun z => NameKind.noConfusion z
    rcases List.mem_cons.mp hy with rfl | hy
    · exact fun z => NameKind.noConfusion z
    rcases List.mem_cons.mp hy with rfl | hy
    · exact fun z => NameKind.noConfusion z
    cases hy
  · intro y hy
    rcases List.mem_cons.mp hy with rfl | hy
    · exact lk1
    rcases List.mem_cons.mp hy with rfl | hy
    · exact lk2
    cases hy
  have m1 : ([(("self" : Str), Value.ref x), (f, v)].reverse.lookup ("self" : Str)) = some (.ref x) := by
    show List.lookup ("self" : Str) [(f, v), (("self" : Str), Value.ref x)] = _
    simp [List.lookup, T.sf]
  have m2 : ([(("self" : Str), Value.ref x), (f, v)].reverse.lookup f) = some v := by
    show List.lookup f [(f, v), (("self" : Str), Value.ref x)] = _
    simp [List.lookup]
  have kh : ∀ b o, hp.get? b = some o → h₁.get? b = some o := fun b o e => k₁ b o (kp b o e)
  have F₁ : Fr hp s.heap.objs.size h₁ (fun y => [(("self" : Str), Value.ref x), (f, v)].reverse.lookup y) := ⟨hns, kh, hsz⟩
  have N₁ : News hp s.heap.objs.size h₁ [(x, excObj C t0 none .none)] := fun p hp' => by
    obtain rfl := List.mem_singleton.mp hp'
    exact ⟨k₁ _ _ hx, Nat.ne_of_lt (Heap.lt_size hx), hpx⟩
  refine ks_wpAt_execs_cons (ks_wpAt_Expr_any (ks_wpAt_MethodCall ?_ (ev_call hpos rfl)))
  have kc : ∀ {b : Addr} {o : Obj}, K.lookup b = some o → h₁.get? b = some o := fun e => kh _ _ (X₀ _ _ e)
  have X₁ : K.In h₁ := X₀.keeps kh
  have hx₁ := k₁ _ _ hx
  refine ks_wpAt_super_base (env := ksEnv qual (nS f) s.heap.objs.size fI (.ref cda) cc) lk4 lk3 (by decide) rfl (kc ho) rfl rfl rfl (kc hcode) rfl hvs hfile T.top ?_
  refine ks_loadName_global rfl lk4 (loadGlobal_builtin (hg.keeps kh) (mg_none_of X₀ hg T.sup) (hb.keeps kh) ((hbb _ (by decide +kernel)).trans (show bootBuiltins "super" = some (.type "super") by decide +kernel)) ⟨rfl, ?_⟩)
  refine wpAny_loadName_free rfl lk3 rfl ⟨_, kc hcell, rfl⟩ ?_
  refine wpAny_loadName_local rfl lk1 hns m1 ?_
  refine ks_wpAny_isType_cls (kc hC) rfl ⟨rfl, ?_⟩
  refine ks_wpAny_call_super (kc hC) rfl hx₁ rfl (fun c z => by cases z) (looks_mroIn X₁ T.me) (fun h₂ e₂ k₂ => ?_)
  obtain ⟨F₂, N₂, l₂⟩ := ks_newsPush (s := ⟨h₁, s.gens, s.drawn, s.toks + 2, s.os⟩) F₁ N₁ rfl e₂ k₂
  have kh₂ : ∀ b o, hp.get? b = some o → h₂.get? b = some o := fun b o e => k₂ b o (kh b o e)
  have X₂ : K.In h₂ := X₀.keeps kh₂
  have hx₂ := k₂ _ _ hx₁
  refine kxs_method (s := ⟨h₂, s.gens, s.drawn, s.toks + 2, s.os⟩) kxs_ValueError F₂ X₀ N₂ List.mem_cons_self (InstAt.of_exc0 N₂ (List.mem_cons_of_mem _ List.mem_cons_self)) T.tp T.up T.veC (by decide) (fun u h₃ F₃ N₃ l₃ => ?_)
  refine kxs_callWith1 (s := ⟨h₃, s.gens, s.drawn, s.toks + 2 + 1, s.os⟩) (i := "ValueError.__init__") N₃ List.mem_cons_self ?_
  refine spliced_more (wpAny_Constant_str (spliced_none ⟨kxs_at N₃ List.mem_cons_self, ?_⟩))
  have nux : u ≠ x := fun z => by
    have := l₃ _ (List.mem_cons_of_mem _ List.mem_cons_self)
    rw [z] at this
    exact absurd this (Nat.lt_irrefl _)
  have nsx : h₁.objs.size ≠ x := fun z => by
    have := l₂ _ List.mem_cons_self
    rw [← z] at this
    exact absurd this (Nat.lt_irrefl _)
  refine kxs_call (s := ⟨h₃, s.gens, s.drawn, s.toks + 2 + 1 + 1, s.os⟩) F₃ X₀ N₃ PySem.F.excBase_ValueError T.inC List.mem_cons_self (.tail nux (.tail nsx (.head (by simp)))) (by show 1 ≤ sizeLine; rw [sizeLine_eq]; omega) (fun t₄ h₄ F₄ N₄ l₄ => ?_)
  have kh₄ : ∀ b o, hp.get? b = some o → h₄.get? b = some o := F₄.keep
  have X₄ : K.In h₄ := X₀.keeps kh₄
  have hx₄ : h₄.get? x = some (excO C t₄) := (N₄ (x, excObj C t₄ none .none) (by simp)).1
  have z₄ : s.heap.objs.size < h₄.objs.size := F₄.ns.lt
  refine ks_wpAt_execs_cons (ks_wpAt_Assign_Attr ?_)
  refine wpAt_of_wpAny (wpAny_Name ?_ T.db)
  refine wpAny_loadName_local rfl lk2 F₄.ns m2 ?_
  refine wpAny_Name ?_ (by decide)
  refine wpAny_loadName_local rfl lk1 F₄.ns m1 ?_
  refine set_plain X₄ (ox := excO C t₄) (od := none) ⟨hx₄, rfl, rfl, trivial⟩ T.sa ?_
  refine exc_osa X₄ hx₄ hcl (show refsVE (.ref C :: bm) = true from hbm) rfl T.noN (fun h₅ tk₅ dx k₅ dn dne hx₅ hn₅ => ?_)
  refine wpAt_of_wpAny (wpAny_execs_nil (hq h₅ tk₅ dx t₄ (fun b o e => k₅ b o (fun z => ?_) (kh₄ b o e)) hx₅ (Nat.le_trans hsz (Nat.le_trans (Nat.le_of_lt z₄) dn)) dne hn₅))
  rw [z, hpx] at e
  cases e
/-- what C(v) leaves: the exception at e, its dict at d -/
structure Made (h h' : Heap) (e C d : Addr) (f : Str) (v : Value) : Prop where
  keep : ∀ b o, h.get? b = some o → h'.get? b = some o
  new : h.objs.size ≤ e
  obj : ∃ t1 : Addr, h'.get? e = some { cls := .ref C, dict := some d, data := .fields #[.ref t1, .none, .none, .none, .bool false, .none] }
  big : h.objs.size ≤ d
  dne : d ≠ e
  ns : h'.Ns1 d (fun y => if y = f then some v else none)
theorem made (T : Txt prog K mg C fI qual f lit) {v : Value} (X₀ : K.In s.heap) (hg : s.heap.Ns mainGlobals mg) (hb : s.heap.Ns builtinsNs mb) (hbb : ∀ y : Str, y ≠ "__name__" → mb y = bootBuiltins y) (hlim : s.heap.NoLimit)
    (hroom : A.depth + 1 < recursionLimit) (hq : ∀ h' tk e d, Made s.heap h' e C d f v → R (.ok (.ret (.ref e))) { s with heap := h', toks := tk }) : codeAny (model prog w) A (.call (.ref C) ⟨[v], []⟩) R s := by
  obtain ⟨nm, q, N, bs, bm, sn, sub, ab, col, dd, k0, k1, k2, k3, k5, hC, hbm⟩ := T.cls
  obtain ⟨hp, g, dr, tk, os⟩ := s
  have kk : ∀ b o, hp.get? b = some o → ((hp.push (kdv_tup [v])).push (excO C hp.objs.size)).get? b = some o := fun b o e => Heap.get?_push_of_some _ (Heap.get?_push_of_some _ e)
  have he : ((hp.push (kdv_tup [v])).push (excO C hp.objs.size)).get? (hp.objs.size + 1) = some (excO C hp.objs.size) := by heap_get
  have hpe : hp.get? (hp.objs.size + 1) = none := by
    cases z : hp.get? (hp.objs.size + 1) with
    | none => rfl
    | some o => exact absurd (Nat.lt_of_succ_lt (Heap.lt_size z)) (Nat.lt_irrefl _)
  refine call_own PySem.F.excBase_ValueError (fun Y => refsVE_contains Y bm hbm) (X₀ _ _ hC) (looks_findIn X₀ T.iC) (fun self => bind_fn X₀ self T.tC) (by show 1 ≤ sizeLine; rw [sizeLine_eq]; omega) ?_
  refine init_run (s := ⟨(hp.push (kdv_tup [v])).push (excO C hp.objs.size), g, dr, tk, os⟩) T X₀ hg hb hbb hlim kk (by show hp.objs.size ≤ _; rw [Heap.size_push, Heap.size_push]; omega) he hpe hroom (fun h' tk' dx t1 k' hx db dn hn => ?_)
  exact ⟨rfl, hq h' tk' (hp.objs.size + 1) dx ⟨k', Nat.le_succ _, ⟨t1, hx⟩, db, dn, hn⟩⟩
end
end VN
namespace L2
open PySem PySem.Spec PyProof.Rows
section
variable {X : Cx} {C fI : Addr} {qual f lit n : Str}
/-- n(e), the class at C -/
def tMkN (C : Addr) (f : Str) (ta : TA) : St → Hp → XK → Prop := fun σ H Q => ta σ H fun vs H1 => ∃ v, vs = [v] ∧ ∀ d, H1 d = none → Q (.ref C) (some d) (upd H1 d (.xd [(f, v)]))
theorem pmk_n {a : Expr} {ta : TA} {p pos : Pos} {k : Nat} (T : VN.Txt X.prog X.K X.mg C fI qual f lit) (hm : X.mg n = some (.ref C)) (hr : Room k X.A) (ha : PA X [a] ta) (hg : Gl X n)
    (hdb : (n == ("__debug__" : Str)) = false := by decide)
    (he : starEach (a :: []) X.env = (false, eval a X.env) :: starEach [] X.env := by rfl) (hpl : (backTo pos (starEach [] X.env)).any (·.1) = false := by rfl) :
    PMk X (.Call (.Name n p) [a] [] pos) (tMkN C f ta) := by
  intro pins s σ H Q I h
  refine wpAny_Call_Name_kw (ld_glob I hg hm ?_ hdb)
  refine PySem.W.callWith_K (h₀ := X.base) I.ok.mod.kin T.kC (thn (ha.run pos pins s σ H _ I h) fun us s1 ⟨vs, H1, I1, r1, v, ev, q1⟩ => ?_) he hpl
  subst ev
  refine ⟨I1.kIn, ?_⟩
  cases r1 with
  | cons rv rn =>
    rename_i v' us'
    cases rn
    have hlim := I1.nolimit
    have bs := fun b o e => (I1.bs b o e).1
    obtain ⟨mb, hb, hbb⟩ := I1.ok.mod.blt
    have hg1 := I1.ok.mod.glob.keeps bs
    have hb1 := hb.keeps bs
    obtain ⟨hp, g, dr, tk, os⟩ := s1
    refine wpAny_call (VN.made T I1.kIn hg1 hb1 hbb hlim (by have := hr.dp; omega) fun h' tk' e d M => ?_)
    show MkP X pins σ Q (.ref e) ⟨h', g, dr, tk', os⟩
    obtain ⟨t1, hoe⟩ := M.obj
    obtain ⟨G', g1, g2⟩ := restrict h' fun b => decide (b ≠ e)
    have gk : ∀ b, b ≠ e → G'.get? b = h'.get? b := fun b hb => g1 b (decide_eq_true hb)
    have ge : G'.get? e = none := g2 e (by simp)
    have old : ∀ b o, hp.get? b = some o → G'.get? b = some o := fun b o q => (gk b (Nat.ne_of_lt (Nat.lt_of_lt_of_le (Heap.lt_size q) M.new))).trans (M.keep b o q)
    have ob : ObjOk X.prog X.w (upd H1 d (.xd [(f, v)])) G' d (.xd [(f, v)]) :=
      ⟨_, M.ns.at (fun o q => (gk d M.dne).trans q), fun y => relO_put rv (mA := fun _ => none) (fs := []) (fun _ => True.intro) y⟩
    have J : Inv X pins σ (upd H1 d (.xd [(f, v)])) ⟨G', g, dr, tk', os⟩ := I1.laid (t' := tk') old M.big ob
    refine ⟨e, _, _, ⟨G', g, dr, tk', os⟩, _, .ref C, some d, rfl, J, fun b o q => ?_, ge, hoe, ⟨rfl, rfl⟩, rfl, rfl, ?_, rfl, I1.bare, raises_own T.exC T.tyC, q1 d (I1.hok.fresh M.big)⟩
    · by_cases hb : b = e
      · have q' : G'.get? b = some o := q
        rw [hb, ge] at q'; cases q'
      · exact (gk b hb).symm.trans q
    · rw [upd_ne (Ne.symm M.dne)]
      exact I1.hok.fresh M.new
end
end L2
namespace VI
open PySem PySem.Spec PySem.Calls PyProof.Rows PySem.W
section
variable {prog : Program} {w : World} {A : Around} {E : Value → Shared → Prop} {s : Shared} {K : Frag} {x D : Addr} {ox : Obj} {od : Option Obj}
theorem found (T : L2.ExcC K D) : findObj K D od "__class__" = some (.bind (.builtin "getset_descriptor.__get__") (.builtin "object.__class__")) := by
  obtain ⟨cd, hc, _⟩ := any_some T.hd
  unfold findObj
  rw [hc, Option.bind_some, T.ha, Option.bind_some]
  simp [T.hn, T.ht]
theorem cls_exc {Q : Option Value → Shared → Prop} (T : L2.ExcC K D) (X : K.In s.heap) (I : InstAt s.heap x ox D od) (h : Q (some (.ref D)) { s with toks := s.toks + 1 }) :
    wpAny (model prog w) A (getAttr? (.ref x) "__class__") Q E s := by
  obtain ⟨hp, gs, dr, tk, os⟩ := s
  have ty := I.type (M := model prog w)
  have ga := looks_findIn (M := model prog w) X T.hg
  have gt := looks_findIn (M := model prog w) X T.hk
  have fd := looks_find (M := model prog w) X I (found T)
  have n1 : (Value.builtin "BaseException.__getattribute__" == Value.builtin "object.__getattribute__") = false := by decide +kernel
  have bd := PySem.F.excAttr_ValueError.ga.bind (.ref x)
  unfold getAttr? getAttrBy? getAttrBy
  repeat (first | (with_reducible refine ty.at ?_) | (with_reducible refine ga.at ?_) | wp_step)
  refine gt.at ?_
  unfold callGetattribute boundAndCalled
  repeat (first | (simp only [bd, Bool.false_and, Bool.false_eq_true, if_false]) | wp_step)
  have sb : Looks (model prog w) hp (isInstance (.ref x) (.type "BaseException")) true := ty.andThen (looks_subIn X T.hs)
  have ar := PySem.F.args_bexc_ga (.ref x) (.str "__class__" tk)
  refine codeAny_call_builtin PySem.F.excAttr_ValueError.ga.plain PySem.F.entry_bexc_ga (@check_slot (model prog w) _ _ ⟨hp, gs, dr, tk + 1, os⟩ "BaseException.__getattribute__" "BaseException" "__getattribute__" (.ref x) [.str "__class__" tk] [] _ (by decide +kernel) (by decide +kernel) sb ar ?_)
  unfold Builtin.«object.__getattribute__»
  refine wpAny_bind (wpAny_of_eq (a := ((Value.ref x : Value), [Value.str "__class__" tk])) (by first | rfl | (simp only [slotArgs]; rfl)) ?_)
  repeat (first | (with_reducible refine ty.at ?_) | (with_reducible refine fd.at ?_) | wp_step)
  refine class_get (s := ⟨hp, gs, dr, tk + 1, os⟩) (ox := ox) (od := od) X I T.hm ?_
  repeat (first | (rw [handedOut_of (v := .ref D) rfl]) | wp_step)
  exact h
/-- such an exception, whatever dict it has -/
theorem kit (T : L2.ExcC K D) : KitX K (.ref x) (.ref D) (fun h => ∃ od, InstAt h x ox D od) where
  ty := fun _ _ _ ⟨_, I⟩ => I.type
  it := fun _ _ X _ => by
    obtain ⟨cd, hc, _⟩ := any_some T.hd
    unfold clsIn at hc
    split at hc
    · rename_i ho
      intro A' Q' E' s' k q
      exact wpAny_bind (wpAny_loadPart (k _ _ (X _ _ ho)) (wpAny_pure q))
    · cases hc
  ne := fun h tp dd its n sl X htp => by
    obtain ⟨cd, hc, _⟩ := any_some T.hd
    cases q : ((.ref D : Value) == .ref tp) with
    | false => rfl
    | true =>
      obtain rfl : D = tp := Value.ref.inj (beq_iff_eq.mp q)
      unfold clsIn at hc
      split at hc
      · rename_i ho
        cases (X _ _ ho).symm.trans htp
      · cases hc
  ca := fun X ⟨_, I⟩ k => cls_exc T X I k
end
end VI
namespace L2
open PySem PySem.Spec PyProof.Rows
theorem inst_of {K : PySem.W.Frag} {X : Cx} {pn pins : List (Addr × Obj)} {σ : St} {H : Hp} {s : Shared} {a D : Addr} {oe : Obj} {d : Option Addr} (I : Inv (X.suite a ((a, oe) :: pn)) pins σ H s) (hz : Zc (.ref D) d oe) (hf : ∃ vs, oe.data = .fields vs)
    (hd : ∀ dd, d = some dd → ∃ fs, H dd = some (.xd fs)) : ∃ od, PySem.W.InstAt s.heap a oe D od := by
  obtain ⟨ha, _⟩ := I.pin (a, oe) (List.mem_append_left _ List.mem_cons_self)
  obtain ⟨vs, hv⟩ := hf
  obtain ⟨h1, h2⟩ := hz
  have nc : PySem.W.notCls oe = true := by unfold PySem.W.notCls; rw [hv] <;> rfl
  cases d with
  | none => exact ⟨none, ha, h1, nc, by rw [h2]; trivial⟩
  | some dd =>
    obtain ⟨fs, ed⟩ := hd dd rfl
    have hx : ObjOk X.prog X.w H s.heap dd (.xd fs) := I.hok dd _ ed
    obtain ⟨mA, hns, hr⟩ := hx
    obtain ⟨od, ho, hl⟩ := lookIn_ns hns
    exact ⟨some od, ha, h1, nc, by rw [h2]; exact ho⟩
/-- isinstance(e, c), e the exception that the suite holds (at a, its class cls, its dict d) -/
def rIsX (K : PySem.W.Frag) (D a : Addr) (cls : Value) (d : Option Addr) : List V → Hp → VK → Prop := fun xs H Q => ∃ (c : V) (u : Value) (b : Bool), xs = [.ref a, c] ∧ cls = .ref D ∧ ClsV c u ∧ PySem.W.kitOne K (.ref D) u = some b ∧
  (∀ dd, d = some dd → ∃ fs, H dd = some (.xd fs)) ∧ Q (.bl b) H
theorem call_isX {X : Cx} {a D : Addr} {oe : Obj} {cls : Value} {d : Option Addr} {pn : List (Addr × Obj)} (C : ExcC X.K D) (hz : Zc cls d oe) (hf : ∃ vs, oe.data = .fields vs) : CallR (X.suite a ((a, oe) :: pn)) (.builtin "isinstance") (rIsX X.K D a cls d) := by
  intro pins s σ H xs us Q I r h
  obtain ⟨c, u, b, rfl, rfl, hc, e, hd, q⟩ := h
  obtain ⟨u1, u2, rfl, r1, r2⟩ := vals2 r
  cases (show u1 = Value.ref a from r1)
  have e2 := hc.eq r2
  subst e2
  exact PySem.W.kia_one (VI.kit C) I.kIn (inst_of (K := X.K) I hz hf hd) e (fun z => nomatch z) fun tk => ⟨.bl b, H, I.tok tk, rfl, q⟩
/-- isinstance(e, (c1, c2, ..)) -/
def rIsXT (K : PySem.W.Frag) (D a : Addr) (cls : Value) (d : Option Addr) : List V → Hp → VK → Prop := fun xs H Q => ∃ (tp : Addr) (cs : List V) (us : List Value) (b : Bool), xs = [.ref a, .ref tp] ∧ cls = .ref D ∧ H tp = some (.tup cs) ∧ Paired ClsV cs us ∧
  PySem.W.kitAny K (.ref D) us = some b ∧ (∀ dd, d = some dd → ∃ fs, H dd = some (.xd fs)) ∧ Q (.bl b) H
theorem call_isXT {X : Cx} {a D : Addr} {oe : Obj} {cls : Value} {d : Option Addr} {pn : List (Addr × Obj)} (C : ExcC X.K D) (hz : Zc cls d oe) (hf : ∃ vs, oe.data = .fields vs) : CallR (X.suite a ((a, oe) :: pn)) (.builtin "isinstance") (rIsXT X.K D a cls d) := by
  intro pins s σ H xs us Q I r h
  obtain ⟨tp, cs, ws, b, rfl, rfl, hT, k, e, hd, q⟩ := h
  obtain ⟨u1, u2, rfl, r1, r2⟩ := vals2 r
  cases (show u1 = Value.ref a from r1)
  cases (show u2 = Value.ref tp from r2)
  obtain ⟨_, its, rv, o, h1, h2, n, h3⟩ := (show ObjOk X.prog X.w H s.heap tp (.tup cs) from I.hok tp _ hT)
  have e3 := ClsV.all k rv
  subst e3
  obtain ⟨oc, od, dt, sl⟩ := o
  simp only at h2 h3
  subst h2 h3
  exact PySem.W.kia_tup (VI.kit C) I.kIn (inst_of (K := X.K) I hz hf hd) h1 e (fun z => nomatch z) fun tk => ⟨.bl b, H, I.tok tk, rfl, q⟩
end L2
namespace VN
open PySem PySem.W PyProof.Rows PySem.HandSPX
section
variable {K : Frag} {C c N : Addr} {nm q : Str} {bs : List Value} {sn : List Str} {sub : List Value} {ab : Bool} {col : Option Bool} {dd : Option Addr} {m0 m1 m2 m3 m5 : Option Value}
theorem up_of (xC : K.lookup C = some (excClassObj nm q C N bs [.type "ValueError", .type "Exception", .type "BaseException", .type "object"] true sn sub ab col dd m0 m1 m2 m3 m5 "ValueError.__new__")) :
    ks_superIn K C C "__init__" = some (some (.builtin "ValueError.__init__")) := by
  have hcl : ∃ cd : ClassData, clsIn K C = some cd ∧ cd.mro = .ref C :: [.type "ValueError", .type "Exception", .type "BaseException", .type "object"] := by
    unfold clsIn
    rw [xC]
    exact ⟨_, rfl, rfl⟩
  obtain ⟨cd, hcl, hm⟩ := hcl
  unfold ks_superIn
  rw [hcl, Option.bind_some, hm]
  have e : ∀ l : List Value, List.drop 1 (List.dropWhile (fun x => x != Value.ref C) (Value.ref C :: l)) = l := fun l => by simp
  rw [e]
  kernel_rfl
theorem in_of (xC : K.lookup C = some (excClassObj nm q C N bs [.type "ValueError", .type "Exception", .type "BaseException", .type "object"] true sn sub ab col dd m0 m1 m2 m3 m5 "ValueError.__new__")) :
    excInitIn K C [.type "ValueError", .type "Exception", .type "BaseException", .type "object"] "ValueError.__new__" = true := by
  unfold excInitIn
  rw [xC]
  simp [excClassObj, mro_eq]
theorem kit_ve (ve : subIn K (.ref C) (.type "ValueError") = some true) : kitOne K (.ref C) (.type "ValueError") = some true := by
  have e1 : ((Value.ref C) == .type "ValueError") = false := rfl
  have e2 : kitMeta "ValueError" = true := by decide +kernel
  unfold kitOne kitCls
  rw [e1, if_neg Bool.false_ne_true]
  dsimp only
  rw [if_pos e2]
  exact ve
theorem kit_not (sC : subIn K (.ref C) (.ref C) = some true) (hc : isClsIn K c = true) (ht : typeIn K (.ref c) = some (.type "type")) (hs : subIn K (.ref C) (.ref c) = some false) : kitOne K (.ref C) (.ref c) = some false := by
  have ne : C ≠ c := fun z => by
    rw [← z, sC] at hs
    cases hs
  have e1 : ((Value.ref C) == .ref c) = false := by simp [ne]
  have e2 : ((clsIn K c).isSome && typeIn K (.ref c) == some (.type "type")) = true := by
    have h2 : (clsIn K c).isSome = true := hc
    rw [h2, ht] <;> rfl
  unfold kitOne kitCls
  rw [e1, if_neg Bool.false_ne_true]
  dsimp only
  rw [if_pos e2]
  exact hs
end
end VN
namespace K86
open PySem PySem.Spec PyProof.Rows L2 Vr
def top (i : Nat) : Stmt := PySem.Challenge.pw_eitherside_k86_texts_near_trees.main.body.getD i (.Pass ⟨0, 0, 0, 0⟩)
abbrev sTake : Stmt := top 13
/-- a bag at b: what is left of a great cell, a seed, a count -/
def Bag (H : Hp) (b : Addr) : Prop := ∃ x y z : Int, H b = some (.lst [.int x, .int y, .int z]) ∧ 0 ≤ x ∧ 0 ≤ y ∧ y < 2147483647
/-- all but the bag stands -/
def But (b : Addr) (H H' : Hp) : Prop := ∀ c o, H c = some o → c ≠ b → H' c = some o
def spTake : Sp := fun vs H Q _ => ∃ (b : Addr) (m : Int), vs = [.ref b, .int m] ∧ 0 < m ∧ m < 1000000 ∧ Bag H b ∧
  ∀ (r : Int) (H' : Hp), 0 ≤ r → r < m → Bag H' b → But b H H' → Q (.int r) H'
section
variable {P : Program} {w : World} {K : PySem.W.Frag} {mg : Str → Option Value} {base : Heap}
theorem scTake : FnScope ["_law_bag_here", "_law_many", "_law_digit"] ["_law_bag_here", "_law_many"] (defScope sTake) := ⟨rfl, rfl, rfl, by decide +kernel, rfl, by decide +kernel, by decide +kernel⟩
theorem ok_take {f : Addr} {fd : FuncData} (F : Fun K "_law_take" "_law_take" sTake f fd) : FnOk P w K mg base CX0 1 f fd ["_law_bag_here", "_law_many"] spTake := by
  refine F.ok scTake (fun vs H Q E h => ?_) (fun cdv A outer s H vs Q E hr h => ?_)
  · obtain ⟨b, m, rfl, _⟩ := h
    rfl
  · obtain ⟨b, m, rfl, m0, m1, ⟨x, y, z, hb, x0, y0, y1⟩, k⟩ := h
    refine ⟨_, pss_cons (ps_if (pt_cmpR op_gt (pe_ix ix_list (pv 0) pe_int (fun _ _ => rfl)) pe_int (nomark _))
        (pss_cons (ps_set (i := 2) scTake.nd rfl (Or.inl rfl) (pe_op op_modN (pe_ix ix_list (pv 0) pe_int (fun _ _ => rfl)) (pv 1)))
          (pss_cons (ps_asg (pe_op op_fdivN (pe_ix ix_list (pv 0) pe_int (fun _ _ => rfl)) (pv 1)) (pg_sub (pv 0) pe_int set_list))
            (pss_one (ps_ret (pv 2))))) pss_nil)
      (pss_cons (ps_asg (pe_op op_add (pe_ix ix_list (pv 0) pe_int (fun _ _ => rfl)) pe_int) (pg_sub (pv 0) pe_int set_list))
      (pss_cons (ps_asg (pe_op op_mod (pe_op op_add (pe_op op_add (pe_op op_mul (pe_ix ix_list (pv 0) pe_int (fun _ _ => rfl)) pe_int) (pe_op op_mul pe_int (pe_ix ix_list (pv 0) pe_int (fun _ _ => rfl)))) pe_int) pe_int) (pg_sub (pv 0) pe_int set_list))
      (pss_one (ps_ret (pe_op op_modN (pe_op op_fdiv (pe_op op_mod (pe_op op_pow (pe_op op_fdiv (pe_ix ix_list (pv 0) pe_int (fun _ _ => rfl)) pe_int) pe_int) pe_int) pe_int) (pv 1)))))), ?_⟩
    have f0 : ∀ i : Int, 0 ≤ i.fmod m := fun i => Int.fmod_nonneg_of_pos i m0
    have f1 : ∀ i : Int, i.fmod m < m := fun i => Int.fmod_lt_of_pos i m0
    refine ⟨_, rfl, b, _, _, _, rfl, rfl, SqL.of hb, rfl, _, _, rfl, rfl, _, rfl, ?_⟩
    refine ite2 (fun c => ?_) (fun c => ?_)
    · refine ⟨_, rfl, b, _, _, _, rfl, rfl, SqL.of hb, rfl, _, rfl, _, _, rfl, rfl, by omega, ?_⟩
      refine ⟨_, rfl, b, _, _, _, rfl, rfl, SqL.of hb, rfl, _, rfl, _, _, rfl, rfl, ⟨by omega, by omega⟩, ?_⟩
      refine ⟨_, rfl, b, _, _, _, rfl, rfl, hb, rfl, _, rfl, ?_⟩
      refine k _ _ (f0 _) (f1 _) ⟨_, y, z, upd_same, Int.fdiv_nonneg x0 (by omega), y0, y1⟩ fun c o e n => ?_
      rw [upd_ne n]
      exact e
    · refine ⟨_, rfl, b, _, _, _, rfl, rfl, SqL.of hb, rfl, _, _, rfl, rfl, _, rfl, b, _, _, _, rfl, rfl, hb, rfl, ?_⟩
      refine ⟨_, rfl, b, _, _, _, rfl, rfl, SqL.of upd_same, rfl, _, _, rfl, rfl, Or.inr ⟨by decide, by decide⟩, _, rfl, b, _, _, _, rfl, rfl, SqL.of upd_same, rfl, _, _, rfl, rfl, Or.inl ⟨by decide, by decide⟩,
        _, _, rfl, rfl, _, _, rfl, rfl, _, _, rfl, rfl, (by show (0 : Int) < 2147483647; decide), _, rfl, b, _, _, _, rfl, rfl, upd_same, rfl, ?_⟩
      have y2 := Int.emod_nonneg (y * 69621 + 7411 * (z + 1) + 29) (show (2147483647 : Int) ≠ 0 by decide)
      have y3 := Int.emod_lt_of_pos (y * 69621 + 7411 * (z + 1) + 29) (show (0 : Int) < 2147483647 by decide)
      refine ⟨_, rfl, b, _, _, _, rfl, rfl, SqL.of upd_same, rfl, _, _, rfl, rfl, ⟨by decide, by decide⟩, _, _, rfl, rfl, ⟨by decide, by decide, ?_⟩, _, _, rfl, rfl, (by show (0 : Int) < 1048573; decide), _, _, rfl, rfl, ⟨by decide, by decide⟩, _, rfl, _, _, rfl, rfl, by omega, ?_⟩
      · show ((y * 69621 + 7411 * (z + 1) + 29) % 2147483647 / 32).natAbs < 2 ^ 64
        omega
      · refine k _ _ (f0 _) (f1 _) ⟨x, (y * 69621 + 7411 * (z + 1) + 29) % 2147483647, z + 1, upd_same, x0, y2, y3⟩ fun c o e n => ?_
        rw [upd_ne n, upd_ne n]
        exact e
end
abbrev sBag : Stmt := top 12
abbrev sNames : Stmt := top 14
theorem But.refl (b : Addr) (H : Hp) : But b H H := fun _ _ e _ => e
theorem But.trans {b : Addr} {H H1 H2 : Hp} (x : But b H H1) (y : But b H1 H2) : But b H H2 := fun c o e n => y c o (x c o e n) n
theorem But.new {b p : Addr} {H : Hp} {o : HO} (hp : H p = none) : But b H (upd H p o) := fun c u e _ => by
  rw [upd_ne (ne_of_none e hp)]
  exact e
/-- a new object p, changed later -/
theorem But.newer {b p : Addr} {H H1 : Hp} {o : HO} (hp : H p = none) (x : But b H H1) : But b H (upd H1 p o) := fun c u e n => by
  rw [upd_ne (ne_of_none e hp)]
  exact x c u e n
theorem Bag.new {b p : Addr} {H : Hp} {o : HO} (h : Bag H b) (hp : p ≠ b) : Bag (upd H p o) b := by
  obtain ⟨x, y, z, e, r⟩ := h
  refine ⟨x, y, z, ?_, r⟩
  rw [upd_ne hp.symm]
  exact e
theorem Bag.ne {b p : Addr} {H : Hp} (h : Bag H b) (hp : H p = none) : p ≠ b := by
  obtain ⟨x, y, z, e, r⟩ := h
  exact (ne_of_none e hp).symm
/-- H p = none ahead of a change that spares p's being new is not told by But: what is new is said at each call -/
def spBag (K : PySem.W.Frag) : Sp := fun vs H Q _ => ∃ (a : Addr) (ns : List Int) (at_ : Int), vs = [.ref a, .int at_] ∧ SqL K H a (ns.map V.int) ∧ ns.length ≤ 63 ∧ 0 ≤ at_ ∧ at_ < 1000 ∧
  ∀ (b : Addr) (H' : Hp), H b = none → Bag H' b → Same H H' → Q (.ref b) H'
section
variable {P : Program} {w : World} {K : PySem.W.Frag} {mg : Str → Option Value} {base : Heap}
theorem scBag : FnScope ["_law_script", "_law_at", "_law_cell", "_law_far", "_law_seed"] ["_law_script", "_law_at"] (defScope sBag) := ⟨rfl, rfl, rfl, by decide +kernel, rfl, by decide +kernel, by decide +kernel⟩
theorem ok_bag {f : Addr} {fd : FuncData} (F : Fun K "_law_bag" "_law_bag" sBag f fd) (gLen : mg "len" = none) (gAbs : mg "abs" = none) (gInt : mg "int" = none) :
    FnOk P w K mg base CX0 1 f fd ["_law_script", "_law_at"] (spBag K) := by
  refine F.ok scBag (fun vs H Q E h => ?_) (fun cdv A outer s H vs Q E hr h => ?_)
  · obtain ⟨a, ns, i, rfl, _⟩ := h
    rfl
  · obtain ⟨a, ns, i, rfl, hS, hl, i0, i1, k⟩ := h
    refine ⟨_, pss_cons (ps_set (i := 2) scBag.nd rfl (Or.inl rfl) (pe_ifExp (pt_cmpR op_lt (pv 1) (pe_callB call_len_seq (by rfl) gLen PySem.boot_len (pa_cons (pv 0) pa_nil)) (nomark _)) (pe_ix ix_list (pv 0) (pv 1) (fun _ _ => rfl)) pe_int))
      (pss_cons (ps_set (i := 3) scBag.nd rfl (Or.inl rfl) (pe_callB call_abs (by rfl) gAbs (by decide +kernel) (pa_cons (pv 2) pa_nil)))
      (pss_cons (ps_set (i := 4) scBag.nd rfl (Or.inl rfl) (pe_op op_mod (pe_op op_add (pe_op op_add (pe_op op_mul (pe_op op_mod (pv 2) pe_int) pe_int) (pe_op op_mul pe_int (pv 1))) pe_int) pe_int))
      (pss_one (ps_ret (pe_lst (pa_cons (pe_op op_mul (pv 3) (pe_callTy call_int1 (by rfl) gInt (by decide +kernel) (pa_cons (pe_cmpR op_ge (pv 3) (pe_op op_pow pe_int pe_int) (nomark _)) pa_nil))) (pa_cons (pv 4) (pa_cons pe_int pa_nil)))))))), ?_⟩
    refine ⟨_, rfl, _, rfl, a, _, rfl, Or.inl hS, _, _, rfl, rfl, _, rfl, ?_⟩
    refine ite2 (fun c => ?_) (fun c => ?_)
    · have c1 := of_decide_eq_true c
      obtain ⟨j, rfl⟩ := Int.eq_ofNat_of_zero_le i0
      rw [List.length_map] at c1
      have c2 : j < ns.length := by omega
      have e : (ns.map V.int)[j]? = some (V.int ns[j]) := by
        rw [List.getElem?_map, List.getElem?_eq_getElem c2]
        rfl
      refine ⟨_, rfl, _, rfl, a, _, _, _, rfl, rfl, hS, atI_nat e, ?_⟩
      generalize ns[j] = cell
      generalize (j : Int) = i at *
      refine ⟨_, rfl, _, rfl, ?_⟩
      have far : 0 ≤ (if cell < 0 then -cell else cell) := by split <;> omega
      generalize (if cell < 0 then -cell else cell) = far_ at *
      have y2 := Int.emod_nonneg (cell % 2147483647 * 48271 + 9173 * i + 87129) (show (2147483647 : Int) ≠ 0 by decide)
      have y3 := Int.emod_lt_of_pos (cell % 2147483647 * 48271 + 9173 * i + 87129) (show (0 : Int) < 2147483647 by decide)
      have z2 := Int.emod_nonneg cell (show (2147483647 : Int) ≠ 0 by decide)
      have z3 := Int.emod_lt_of_pos cell (show (0 : Int) < 2147483647 by decide)
      refine ⟨_, rfl, _, _, rfl, rfl, (by show (0 : Int) < 2147483647; decide), _, _, rfl, rfl, Or.inr ⟨by decide, by decide⟩, _, rfl, _, _, rfl, rfl, Or.inl ⟨by decide, by decide⟩, _, _, rfl, rfl, _, _, rfl, rfl, _, _, rfl, rfl, (by show (0 : Int) < 2147483647; decide), ?_⟩
      refine ⟨_, rfl, _, rfl, _, _, rfl, rfl, ⟨by decide, by decide, by decide⟩, _, _, rfl, rfl, Or.inr ⟨_, rfl, ?_⟩⟩
      by_cases big : (10 : Int) ^ (18 : Int).toNat ≤ far_
      all_goals
        simp only [big, decide_true, decide_false, if_true, if_false, Bool.false_eq_true]
        refine ⟨_, _, rfl, rfl, Or.inr ⟨by decide, by decide⟩, _, rfl, (by show 3 ≤ sizeLine; decide), fun p hp => ?_⟩
        refine k p _ hp ⟨_, _, 0, upd_same, by omega, y2, y3⟩ fun b o e => ?_
        rw [upd_ne (ne_of_none e hp)]
        exact e
    · refine ⟨_, rfl, _, rfl, ?_⟩
      have far : 0 ≤ (if (0 : Int) < 0 then -(0 : Int) else (0 : Int)) := by split <;> omega
      generalize (if (0 : Int) < 0 then -(0 : Int) else (0 : Int)) = far_ at *
      have y2 := Int.emod_nonneg ((0 : Int) % 2147483647 * 48271 + 9173 * i + 87129) (show (2147483647 : Int) ≠ 0 by decide)
      have y3 := Int.emod_lt_of_pos ((0 : Int) % 2147483647 * 48271 + 9173 * i + 87129) (show (0 : Int) < 2147483647 by decide)
      have z2 := Int.emod_nonneg (0 : Int) (show (2147483647 : Int) ≠ 0 by decide)
      have z3 := Int.emod_lt_of_pos (0 : Int) (show (0 : Int) < 2147483647 by decide)
      refine ⟨_, rfl, _, _, rfl, rfl, (by show (0 : Int) < 2147483647; decide), _, _, rfl, rfl, Or.inr ⟨by decide, by decide⟩, _, rfl, _, _, rfl, rfl, Or.inl ⟨by decide, by decide⟩, _, _, rfl, rfl, _, _, rfl, rfl, _, _, rfl, rfl, (by show (0 : Int) < 2147483647; decide), ?_⟩
      refine ⟨_, rfl, _, rfl, _, _, rfl, rfl, ⟨by decide, by decide, by decide⟩, _, _, rfl, rfl, Or.inr ⟨_, rfl, ?_⟩⟩
      by_cases big : (10 : Int) ^ (18 : Int).toNat ≤ far_
      all_goals
        simp only [big, decide_true, decide_false, if_true, if_false, Bool.false_eq_true]
        refine ⟨_, _, rfl, rfl, Or.inr ⟨by decide, by decide⟩, _, rfl, (by show 3 ≤ sizeLine; decide), fun p hp => ?_⟩
        refine k p _ hp ⟨_, _, 0, upd_same, by omega, y2, y3⟩ fun b o e => ?_
        rw [upd_ne (ne_of_none e hp)]
        exact e
end
/-! ### names -/
def Low (x : Str) : Prop := ∀ c ∈ x.cps.toList, 97 ≤ c ∧ c ≤ 122
def letters : Str := "abcdefghijklmnopqrstuvwxyz"
def taken : List Str := ["self", "other", "super", "raises"]
structure Good (x : Str) : Prop where
  one : 1 ≤ x.length
  six : x.length ≤ 6
  low : Low x
  free : x ∉ taken
theorem letter_all : ∀ i : _root_.Fin 26, (atI letters.cps.toList (i.val : Int)).any (fun c => decide (97 ≤ c) && decide (c ≤ 122)) = true := by decide +kernel
theorem letter (r : Int) (h0 : 0 ≤ r) (h1 : r < 26) : ∃ c, atI letters.cps.toList r = some c ∧ 97 ≤ c ∧ c ≤ 122 := by
  obtain ⟨j, rfl⟩ := Int.eq_ofNat_of_zero_le h0
  have h := letter_all ⟨j, by omega⟩
  dsimp only at h
  cases e : atI letters.cps.toList (j : Int) with
  | none =>
    rw [e] at h
    cases h
  | some c =>
    rw [e] at h
    simp at h
    exact ⟨c, rfl, h⟩
theorem app_cps (a y : Str) : (a ++ y).cps.toList = a.cps.toList ++ y.cps.toList := PySem.W.KT.app_list a y
theorem low_app {a y : Str} (h1 : Low a) (h2 : Low y) : Low (a ++ y) := fun c hc => by
  rw [app_cps] at hc
  exact (List.mem_append.mp hc).elim (h1 c) (h2 c)
theorem low_one {c : Nat} (h : 97 ≤ c ∧ c ≤ 122) : Low ⟨#[c]⟩ := fun d hd => by
  have e : d = c := by simpa using hd
  rw [e]
  exact h
theorem low_join : ∀ l : List Str, (∀ x ∈ l, Low x ∧ x.length = 1) → Low (Str.join Str.empty l) ∧ (Str.join Str.empty l).length = l.length
  | [], _ => ⟨fun c hc => by simp [Str.join, Str.empty] at hc, rfl⟩
  | [x], h => ⟨(h x (List.mem_singleton.mpr rfl)).1, (h x (List.mem_singleton.mpr rfl)).2⟩
  | x :: y :: r, h => by
    obtain ⟨h1, h2⟩ := low_join (y :: r) fun z hz => h z (List.mem_cons_of_mem _ hz)
    obtain ⟨g1, g2⟩ := h x List.mem_cons_self
    have e : Str.join Str.empty (x :: y :: r) = x ++ Str.join Str.empty (y :: r) := by
      show x ++ Str.empty ++ Str.join Str.empty (y :: r) = _
      rw [PySem.Str.append_empty]
    rw [e]
    refine ⟨low_app g1 h1, ?_⟩
    rw [PySem.strLen_append, g2, h2]
    simp only [List.length_cons]
    omega
def zs : Str := "zzzzz"
def Stem (x : Str) : Prop := Low x ∧ (x.length ≤ 2 ∨ x = zs)
theorem stem_zs : Stem zs := ⟨fun c hc => by
  have e : zs.cps.toList = [122, 122, 122, 122, 122] := by decide +kernel
  rw [e] at hc
  simp at hc
  omega, Or.inr rfl⟩
theorem stem_len {x : Str} (h : Stem x) : x.length ≤ 5 := by
  rcases h.2 with h | h
  · omega
  · rw [h]
    decide +kernel
theorem taken_len {x : Str} (h : x ∈ taken) : 4 ≤ x.length := by
  simp only [taken, List.mem_cons, List.not_mem_nil, or_false] at h
  rcases h with rfl | rfl | rfl | rfl <;> decide +kernel
theorem taken_first {x : Str} (h : x ∈ taken) : x.cps.toList.head? ≠ some 122 := by
  simp only [taken, List.mem_cons, List.not_mem_nil, or_false] at h
  rcases h with rfl | rfl | rfl | rfl <;> decide +kernel
theorem good_of {x : Str} {c : Nat} (h : Stem x) (hc : 97 ≤ c ∧ c ≤ 122) : Good (x ++ ⟨#[c]⟩) := by
  have e1 : (⟨#[c]⟩ : Str).length = 1 := rfl
  have l5 := stem_len h
  refine ⟨by rw [PySem.strLen_append]; omega, by rw [PySem.strLen_append]; omega, low_app h.1 (low_one hc), fun t => ?_⟩
  rcases h.2 with s | s
  · have := taken_len t
    rw [PySem.strLen_append] at this
    omega
  · refine taken_first t ?_
    rw [s, app_cps]
    have e : zs.cps.toList = [122, 122, 122, 122, 122] := by decide +kernel
    rw [e]
    rfl
theorem But.free {b p : Addr} {H H' : Hp} (x : But b H H') (h : Bag H' b) (hp : H' p = none) : H p = none := by
  have ne := h.ne hp
  cases e : H p with
  | none => rfl
  | some o =>
    rw [x p o e ne] at hp
    cases hp
theorem pace4 (r : Int) (h0 : 0 ≤ r) (h1 : r < 4) : ∃ v : Int, atI [V.int 1, V.int 3, V.int 5, V.int 25] r = some (.int v) ∧ 0 ≤ v ∧ v ≤ 25 := by
  have c : r = 0 ∨ r = 1 ∨ r = 2 ∨ r = 3 := by omega
  rcases c with rfl | rfl | rfl | rfl
  · exact ⟨1, rfl, by decide, by decide⟩
  · exact ⟨3, rfl, by decide, by decide⟩
  · exact ⟨5, rfl, by decide, by decide⟩
  · exact ⟨25, rfl, by decide, by decide⟩
def spNames : Sp := fun vs H Q _ => ∃ (b : Addr) (m : Int), vs = [.ref b, .int m] ∧ 0 < m ∧ m < 60 ∧ Bag H b ∧
  ∀ (p : Addr) (ns : List Str) (H' : Hp), H p = none → (ns.length : Int) = m → (∀ x ∈ ns, Good x) → H' p = some (.lst (ns.map V.str)) → Bag H' b → But b H H' → Q (.ref p) H'
section
variable {P : Program} {w : World} {K : PySem.W.Frag} {mg : Str → Option Value} {base : Heap}
abbrev nNames : List Str := ["_law_bag_here", "_law_many", "_law_letters", "_law_stem", "_law_first", "_law_pace", "_law_turn"]
theorem scNames : FnScope nNames ["_law_bag_here", "_law_many"] (defScope sNames) := ⟨rfl, rfl, rfl, by decide +kernel, rfl, by decide +kernel, by decide +kernel⟩
theorem ok_names {f fT : Addr} {fd fdT : FuncData} (F : Fun K "_law_names" "_law_names" sNames f fd) (GT : FnOk P w K mg base CX0 1 fT fdT ["_law_bag_here", "_law_many"] spTake)
    (bT : Binds K fdT ["_law_bag_here", "_law_many"] []) (mT : mg "_law_take" = some (.ref fT)) (kT : PySem.W.keepIn K (.ref fT) = true) (gRange : mg "range" = none) (gSorted : mg "sorted" = none) :
    FnOk P w K mg base CX0 2 f fd ["_law_bag_here", "_law_many"] spNames := by
  refine F.ok scNames (fun vs H Q E h => ?_) (fun cdv A outer s H vs Q E hr h => ?_)
  · obtain ⟨b, m, rfl, _⟩ := h
    rfl
  · obtain ⟨b, m, rfl, m0, m1, hb, k⟩ := h
    refine ⟨_, pss_cons (ps_set (i := 2) scNames.nd rfl (Or.inr rfl) pe_str)
      (pss_cons (ps_set (i := 3) scNames.nd rfl (Or.inr rfl) (pe_join pe_str
        (pe_lc (own := [("_law_turn", 6)]) (g := gName 6) (tt := tYes) rfl scNames.nd (pi_range1 (by rfl) gRange (pa_cons (pe_call GT hr rfl mT kT bT .nil pass0 (pa_cons (pv 0) (pa_cons pe_int pa_nil))) pa_nil))
          (blkOk_by (N := nNames) (sc := defScope sNames) (by decide +kernel)) (fun _ _ _ _ _ => pg_name (i := 6) scNames.nd rfl (Or.inl rfl)) (fun _ _ _ _ _ => pts_nil)
          (fun _ _ _ _ _ => pe_ix ix_str (pv 2) (pe_call GT hr rfl mT kT bT .nil pass0 (pa_cons (pv 0) (pa_cons pe_int pa_nil))) (fun _ _ => rfl)))))
      (pss_cons (ps_if (pt_cmpR op_eq (pe_call GT hr rfl mT kT bT .nil pass0 (pa_cons (pv 0) (pa_cons pe_int pa_nil))) pe_int (nomark _)) (pss_one (ps_set (i := 3) scNames.nd rfl (Or.inr rfl) pe_str)) pss_nil)
      (pss_cons (ps_asg (pe_tup (pa_cons (pe_call GT hr rfl mT kT bT .nil pass0 (pa_cons (pv 0) (pa_cons pe_int pa_nil)))
          (pa_cons (pe_ix ix_list (pe_lst (pa_cons pe_int (pa_cons pe_int (pa_cons pe_int (pa_cons pe_int pa_nil))))) (pe_call GT hr rfl mT kT bT .nil pass0 (pa_cons (pv 0) (pa_cons pe_int pa_nil))) (fun _ _ => rfl)) pa_nil)))
          (pg_tup rfl (pgs_cons (pg_name (i := 4) scNames.nd rfl (Or.inr rfl)) (pgs_cons (pg_name (i := 5) scNames.nd rfl (Or.inr rfl)) pgs_nil))))
      (pss_one (ps_ret (pe_callB cr_sortedS (by rfl) gSorted (by decide +kernel) (pa_cons
        (pe_lc (own := [("_law_turn", 6)]) (g := gName 6) (tt := tYes) rfl scNames.nd (pi_range1 (by rfl) gRange (pa_cons (pv 1) pa_nil))
          (blkOk_by (N := nNames) (sc := defScope sNames) (by decide +kernel)) (fun _ _ _ _ _ => pg_name (i := 6) scNames.nd rfl (Or.inl rfl)) (fun _ _ _ _ _ => pts_nil)
          (fun _ _ _ _ _ => pe_op op_add_str (pv 3) (pe_ix ix_str (pv 2) (pe_op op_mod (pe_op op_add (pv 4) (pe_op op_mul (pv 5) (pv 6))) pe_int) (fun _ _ => rfl)))) pa_nil))))))), ?_⟩
    -- the stem
    refine ⟨⟨_, rfl⟩, _, rfl, b, 3, rfl, by decide, by decide, hb, fun r H1 r0 r1 hb1 k1 => ⟨r, rfl, by omega, by omega, fun D hD => ?_⟩⟩
    have ne1 : D ≠ b := hb1.ne hD
    refine lc_range (lo := 0) (n := r.toNat) (fun i H2 => ∃ acc : List Str, acc.length = i ∧ (∀ x ∈ acc, Low x ∧ x.length = 1) ∧ H2 D = some (.lst (acc.map V.str)) ∧ Bag H2 b ∧ But b H1 H2)
      ⟨[], rfl, by simp, upd_same, hb1.new ne1, But.new hD⟩ ?_ ?_
    · intro i H2 hi ⟨acc, e1, e2, e3, e4, e5⟩
      refine ⟨rfl, _, rfl, _, rfl, b, 26, rfl, by decide, by decide, e4, fun q H3 q0 q1 hb3 k3 => ?_⟩
      obtain ⟨c, hc, hc2⟩ := letter q q0 q1
      refine ⟨letters, q, c, rfl, rfl, by decide +kernel, hc, _, k3 _ _ e3 ne1, ?_, acc ++ [⟨#[c]⟩], by simp [e1], ?_, ?_, hb3.new ne1, ?_⟩
      · rw [List.length_map, e1]
        exact small1000 (by omega)
      · intro x hx
        rcases List.mem_append.mp hx with hx | hx
        · exact e2 x hx
        · rw [List.mem_singleton.mp hx]
          exact ⟨low_one hc2, rfl⟩
      · rw [upd_same, List.map_append]
        rfl
      · exact But.newer hD (e5.trans k3)
    · intro H2 ⟨acc, e1, e2, e3, hb2, k2⟩
      refine ⟨_, D, acc, rfl, rfl, Or.inl (SqL.of e3), ?_, ?_⟩
      · have e : (acc.map fun x => x.length).sum = acc.length := by
          clear e1 e3
          induction acc with
          | nil => rfl
          | cons x l ih =>
            rw [List.map_cons, List.sum_cons, ih fun z hz => e2 z (List.mem_cons_of_mem _ hz), (e2 x List.mem_cons_self).2, List.length_cons]
            omega
        have z : (Str.ofString "").length = 0 := rfl
        rw [e, z, e1]
        omega
      · have hst : Stem (Txt.join (Str.ofString "") acc) := by
          have q := low_join acc e2
          have ej : Txt.join (Str.ofString "") acc = Str.join Str.empty acc := StrLaws.glued_eq_join _ _
          rw [ej]
          exact ⟨q.1, Or.inl (by rw [q.2, e1]; omega)⟩
        generalize Txt.join (Str.ofString "") acc = st0 at hst ⊢
        have k12 := k1.trans k2
        clear k1 k2 hb hb1
        refine ⟨_, rfl, b, 5, rfl, by decide, by decide, hb2, fun q H3 q0 q1 hb3 k3 => ⟨rfl, _, rfl, ?_⟩⟩
        have kk := k12.trans k3
        refine ite2 (fun c => ?_) (fun c => ?_)
        have hs : Stem (Str.ofString "zzzzz") := stem_zs
        generalize (Str.ofString "zzzzz") = st at hs ⊢
        rotate_left
        have hs := hst
        generalize st0 = st at hs ⊢
        all_goals
          -- first, pace
          refine ⟨_, rfl, b, 26, rfl, by decide, by decide, hb3, fun first H4 f0 f1 hb4 k4 => ⟨by decide, fun L hL => ?_⟩⟩
          have neL : L ≠ b := hb4.ne hL
          refine ⟨_, rfl, b, 4, rfl, by decide, by decide, hb4.new neL, fun q5 H5 q50 q51 hb5 k5 => ?_⟩
          obtain ⟨pace, p1, p2, p3⟩ := pace4 q5 q50 q51
          have kL := kk.trans (k4.trans ((But.new hL).trans k5))
          refine ⟨L, _, _, _, rfl, rfl, SqL.of (k5 _ _ upd_same neL), p1, (by show 2 ≤ sizeLine; decide), fun t ht => ?_⟩
          have net : t ≠ b := hb5.ne ht
          refine ⟨t, _, rfl, SqT.of upd_same, rfl, _, _, rfl, _, _, rfl, rfl, ?_⟩
          -- the names
          have kt := kL.trans (But.new (b := b) (o := HO.tup [V.int first, V.int pace]) ht)
          have hb6 := hb5.new (o := HO.tup [V.int first, V.int pace]) net
          refine ⟨_, rfl, m, rfl, by omega, by omega, fun G hG => ?_⟩
          have neG : G ≠ b := hb6.ne hG
          refine lc_range (lo := 0) (n := m.toNat) (fun i H7 => ∃ acc : List Str, acc.length = i ∧ (∀ x ∈ acc, Good x) ∧ H7 G = some (.lst (acc.map V.str)) ∧ Bag H7 b ∧ But b H H7)
            ⟨[], rfl, by simp, upd_same, hb6.new neG, kt.trans (But.new hG)⟩ ?_ ?_
          · intro i H7 hi ⟨ac, a1, a2, a3, a4, a5⟩
            have w0 := Int.emod_nonneg (first + pace * (0 + (i : Int))) (show (26 : Int) ≠ 0 by decide)
            have w1 := Int.emod_lt_of_pos (first + pace * (0 + (i : Int))) (show (0 : Int) < 26 by decide)
            obtain ⟨c, hc, hc2⟩ := letter _ w0 w1
            refine ⟨rfl, _, rfl, _, rfl, _, rfl, _, rfl, _, rfl, _, _, rfl, rfl, Or.inl ⟨by omega, by omega⟩, _, _, rfl, rfl, _, _, rfl, rfl, (by show (0 : Int) < 26; decide),
              letters, _, c, rfl, rfl, by decide +kernel, hc, _, _, rfl, rfl, ?_, _, a3, ?_, ac ++ [st ++ ⟨#[c]⟩], by simp [a1], ?_, ?_, a4.new neG, ?_⟩
            · have := stem_len hs
              have e1 : (⟨#[c]⟩ : Str).length = 1 := rfl
              rw [e1]
              exact Nat.le_of_lt (small1000 (by omega))
            · rw [List.length_map, a1]
              exact small1000 (by omega)
            · intro x hx
              rcases List.mem_append.mp hx with hx | hx
              · exact a2 x hx
              · rw [List.mem_singleton.mp hx]
                exact good_of hs hc2
            · rw [upd_same, List.map_append]
              rfl
            · exact But.newer (kt.free hb6 hG) a5
          · intro H7 ⟨ac, a1, a2, a3, a4, a5⟩
            refine ⟨G, ac, rfl, SqL.of a3, by omega, fun ys p perm _ hp => ?_⟩
            have nep : p ≠ b := a4.ne hp
            refine k p ys _ (a5.free a4 hp) ?_ (fun x hx => a2 x (perm.mem_iff.mp hx)) upd_same (a4.new nep) (a5.trans (But.new hp))
            rw [perm.length_eq, a1]
            omega
end
def spRow : Sp := fun vs H Q _ => ∃ (b p : Addr) (m : Int) (ns : List Str), vs = [.ref b, .ref p, .int m] ∧ 0 < m ∧ m < 1000 ∧ Bag H b ∧ H p = some (.lst (ns.map V.str)) ∧ p ≠ b ∧ ns ≠ [] ∧ ns.length < 1000 ∧
  ∀ (t : Addr) (row : List Str) (H' : Hp), H t = none → 1 ≤ row.length → (row.length : Int) ≤ m → (∀ x ∈ row, x ∈ ns) → H' t = some (.tup (row.map V.str)) → Bag H' b → But b H H' → Q (.ref t) H'
/-- len of a list or a tuple, the written part by name -/
def rLen (K : PySem.W.Frag) : List V → Hp → VK → Prop := fun xs H Q => ∃ p ys, xs = [.ref p] ∧ (SqL K H p ys ∨ SqT K H p ys) ∧ Q (.int ys.length) H
theorem call_lenK {X : Cx} : CallR X (.builtin "len") (rLen X.K) := call_len_seq
section
variable {P : Program} {w : World} {K : PySem.W.Frag} {mg : Str → Option Value} {base : Heap}
end
/-! ### trees -/
inductive T where
  | leaf (x : Str)
  | node (l r : T)
def T.row : T → List Str
  | .leaf x => [x]
  | .node l r => l.row ++ r.row
theorem T.row_ne (t : T) : 1 ≤ t.row.length := by
  induction t with
  | leaf x => exact Nat.le_refl _
  | node l r h1 h2 =>
    simp only [T.row, List.length_append]
    omega
def TreeAt (H : Hp) : V → T → Prop
  | v, .leaf x => v = .str x
  | v, .node l r => ∃ (p : Addr) (a c : V), v = .ref p ∧ H p = some (.tup [a, c]) ∧ TreeAt H a l ∧ TreeAt H c r
theorem TreeAt.keep {H H' : Hp} (k : ∀ p xs, H p = some (.tup xs) → H' p = some (.tup xs)) : ∀ {t : T} {v : V}, TreeAt H v t → TreeAt H' v t
  | .leaf _, _, h => h
  | .node _ _, _, ⟨p, a, c, e, h, h1, h2⟩ => ⟨p, a, c, e, k _ _ h, TreeAt.keep k h1, TreeAt.keep k h2⟩
theorem TreeAt.but {H H' : Hp} {b : Addr} {t : T} {v : V} (h : TreeAt H v t) (hb : Bag H b) (k : But b H H') : TreeAt H' v t :=
  h.keep fun p xs e => k p _ e fun z => by
    obtain ⟨x, y, w, q, _⟩ := hb
    rw [z, q] at e
    cases e
theorem TreeAt.same {H H' : Hp} {t : T} {v : V} (h : TreeAt H v t) (k : Same H H') : TreeAt H' v t := h.keep fun p xs e => k p _ e
theorem TreeAt.new {H : Hp} {p : Addr} {o : HO} {t : T} {v : V} (h : TreeAt H v t) (hp : H p = none) : TreeAt (upd H p o) v t := h.keep fun q xs e => by
  rw [upd_ne (ne_of_none e hp)]
  exact e
def spTree (n : Nat) : Sp := fun vs H Q _ => ∃ (b a : Addr) (row : List Str), vs = [.ref b, .ref a] ∧ Bag H b ∧ H a = some (.tup (row.map V.str)) ∧ 1 ≤ row.length ∧ row.length ≤ n ∧ n ≤ 200 ∧
  ∀ (v : V) (t : T) (H' : Hp), TreeAt H' v t → t.row = row → Bag H' b → But b H H' → Q v H'
theorem cut_lo (xs : List V) (k : Nat) (h : k ≤ xs.length) : cutV xs none (some (k : Int)) = xs.take k := by
  unfold cutV
  rw [HT.sIx_none, HT.sIx_nat, Nat.min_eq_left h, List.drop_zero]
  rfl
theorem cut_hi (xs : List V) (k : Nat) (h : k ≤ xs.length) : cutV xs (some (k : Int)) none = xs.drop k := by
  unfold cutV
  rw [HT.sIx_none, HT.sIx_nat, Nat.min_eq_left h, List.take_of_length_le]
  rw [List.length_drop]
  exact Nat.le_refl _
section
variable {P : Program} {w : World} {K : PySem.W.Frag} {mg : Str → Option Value} {base : Heap}
end
abbrev sName : Stmt := top 4
/-! ### data -/
mutual
inductive DatAt (H : Hp) : V → PyData → Prop
  | non : DatAt H .non .none
  | bl (b : Bool) : DatAt H (.bl b) (.bool b)
  | int (i : Int) : DatAt H (.int i) (.int i)
  | str (x : Str) : DatAt H (.str x) (.str x)
  | lst {a : Addr} {xs : List V} {ds : List PyData} : H a = some (.lst xs) → DatAll H xs ds → DatAt H (.ref a) (.list ds)
  | tup {a : Addr} {xs : List V} {ds : List PyData} : H a = some (.tup xs) → DatAll H xs ds → DatAt H (.ref a) (.tuple ds)
inductive DatAll (H : Hp) : List V → List PyData → Prop
  | nil : DatAll H [] []
  | cons {v : V} {vs : List V} {d : PyData} {ds : List PyData} : DatAt H v d → DatAll H vs ds → DatAll H (v :: vs) (d :: ds)
end
section
variable {H H' : Hp} {K : PySem.W.Frag}
mutual
theorem DatAt.dp : ∀ {v : V} {d : PyData}, DatAt H v d → Dp K H v d
  | _, _, .non => .non
  | _, _, .bl b => .bl b
  | _, _, .int i => .int i
  | _, _, .str x => .str x
  | _, _, .lst h r => .lst (SqL.of h) r.dp
  | _, _, .tup h r => .tup (SqT.of h) r.dp
theorem DatAll.dp : ∀ {vs : List V} {ds : List PyData}, DatAll H vs ds → DpAll K H vs ds
  | _, _, .nil => .nil
  | _, _, .cons h r => .cons h.dp r.dp
end
mutual
theorem DatAt.keep (k : ∀ p xs, (H p = some (.tup xs) → H' p = some (.tup xs)) ∧ (H p = some (.lst xs) → H' p = some (.lst xs))) : ∀ {v : V} {d : PyData}, DatAt H v d → DatAt H' v d
  | _, _, .non => .non
  | _, _, .bl b => .bl b
  | _, _, .int i => .int i
  | _, _, .str x => .str x
  | _, _, .lst h r => .lst ((k _ _).2 h) (DatAll.keep k r)
  | _, _, .tup h r => .tup ((k _ _).1 h) (DatAll.keep k r)
theorem DatAll.keep (k : ∀ p xs, (H p = some (.tup xs) → H' p = some (.tup xs)) ∧ (H p = some (.lst xs) → H' p = some (.lst xs))) : ∀ {vs : List V} {ds : List PyData}, DatAll H vs ds → DatAll H' vs ds
  | _, _, .nil => .nil
  | _, _, .cons h r => .cons (DatAt.keep k h) (DatAll.keep k r)
end
theorem DatAt.same {v : V} {d : PyData} (h : DatAt H v d) (k : Same H H') : DatAt H' v d := h.keep fun p xs => ⟨k p _, k p _⟩
theorem DatAll.same {v : List V} {d : List PyData} (h : DatAll H v d) (k : Same H H') : DatAll H' v d := h.keep fun p xs => ⟨k p _, k p _⟩
theorem DatAll.length : ∀ {vs : List V} {ds : List PyData}, DatAll H vs ds → vs.length = ds.length
  | _, _, .nil => rfl
  | _, _, .cons _ r => by simp [r.length]
theorem DatAll.append : ∀ {vs ws : List V} {ds es : List PyData}, DatAll H vs ds → DatAll H ws es → DatAll H (vs ++ ws) (ds ++ es)
  | _, _, _, _, .nil, r => r
  | _, _, _, _, .cons h r, q => .cons h (r.append q)
/-- the last -/
theorem DatAll.snoc : ∀ {ds : List PyData} {vs : List V} {v : V}, DatAll H (vs ++ [v]) ds → ∃ es e, ds = es ++ [e] ∧ DatAll H vs es ∧ DatAt H v e
  | _, [], _, .cons h .nil => ⟨[], _, rfl, .nil, h⟩
  | _, _ :: _, _, .cons h r => by
    obtain ⟨es, e, rfl, h1, h2⟩ := DatAll.snoc r
    exact ⟨_ :: es, e, rfl, .cons h h1, h2⟩
end
theorem Same.new {H : Hp} {p : Addr} {o : HO} (hp : H p = none) : Same H (upd H p o) := fun c u e => by
  rw [upd_ne (ne_of_none e hp)]
  exact e
/-- a new object, changed later -/
theorem Same.newer {H H1 : Hp} {p : Addr} {o : HO} (hp : H p = none) (x : Same H H1) : Same H (upd H1 p o) := fun c u e => by
  rw [upd_ne (ne_of_none e hp)]
  exact x c u e
def tyN : PyData → String
  | .none => "NoneType"
  | .bool _ => "bool"
  | .int _ => "int"
  | .str _ => "str"
  | .list _ => "list"
  | .tuple _ => "tuple"
  | .dict _ => "dict"
theorem DatAt.ty {K : PySem.W.Frag} {H : Hp} {v : V} {d : PyData} (h : DatAt H v d) : TyX K H v (.type (tyN d)) := by
  cases h with
  | non => exact .base .non
  | bl b => exact .base (.bl b)
  | int i => exact .base (.int i)
  | str x => exact .base (.str x)
  | lst h r => exact .base (.lst h)
  | tup h r => exact .base (.tup h)
def isS : PyData → Bool
  | .str _ => true
  | _ => false
def isTup : PyData → Bool
  | .tuple _ => true
  | _ => false
theorem kit_str {K : PySem.W.Frag} : ∀ d : PyData, PySem.W.kitOne K (.type (tyN d)) (.type "str") = some (isS d)
  | .none => kit_ty (show kitB "NoneType" "str" = some false by decide +kernel)
  | .bool _ => kit_ty (show kitB "bool" "str" = some false by decide +kernel)
  | .int _ => kit_ty (show kitB "int" "str" = some false by decide +kernel)
  | .str _ => kit_ty (show kitB "str" "str" = some true by decide +kernel)
  | .list _ => kit_ty (show kitB "list" "str" = some false by decide +kernel)
  | .tuple _ => kit_ty (show kitB "tuple" "str" = some false by decide +kernel)
  | .dict _ => kit_ty (show kitB "dict" "str" = some false by decide +kernel)
theorem kit_tuple {K : PySem.W.Frag} : ∀ d : PyData, PySem.W.kitOne K (.type (tyN d)) (.type "tuple") = some (isTup d)
  | .none => kit_ty (show kitB "NoneType" "tuple" = some false by decide +kernel)
  | .bool _ => kit_ty (show kitB "bool" "tuple" = some false by decide +kernel)
  | .int _ => kit_ty (show kitB "int" "tuple" = some false by decide +kernel)
  | .str _ => kit_ty (show kitB "str" "tuple" = some false by decide +kernel)
  | .list _ => kit_ty (show kitB "list" "tuple" = some false by decide +kernel)
  | .tuple _ => kit_ty (show kitB "tuple" "tuple" = some true by decide +kernel)
  | .dict _ => kit_ty (show kitB "dict" "tuple" = some false by decide +kernel)
def goodB (x : Str) : Bool := decide (1 ≤ x.length) && decide (x.length ≤ 6) && !(taken.any fun y => y == x) && x.cps.toList.all fun c => decide (97 ≤ c) && decide (c ≤ 122)
def nameB : PyData → Bool
  | .str x => goodB x
  | _ => false
def strOk : PyData → Prop
  | .str x => x.length ≤ 100000
  | _ => True
def azB (c : Nat) : Bool := decide (97 ≤ c) && decide (c ≤ 122)
theorem one_lt (c d : Nat) : decide ([c] < [d]) = decide (c < d) := by
  rw [decide_eq_decide]
  constructor
  · intro h
    rcases List.cons_lt_cons_iff.mp h with h | h
    · exact h
    · exact absurd h.2 (List.not_lt_nil _)
  · intro h
    exact List.cons_lt_cons_iff.mpr (Or.inl h)
theorem goodB_eq (x : Str) : goodB x = (decide (1 ≤ x.length) && decide (x.length ≤ 6) && !(taken.any fun y => y == x) && x.cps.toList.all azB) := rfl
theorem inV_taken (x : Str) : inV (.str x) (taken.map V.str) = taken.any fun y => y == x := by
  unfold inV
  rw [List.any_map]
  rfl
theorem smallM {n : Nat} (h : n ≤ 100000) : n < sizeLine := by
  rw [sizeLine_eq]
  omega
def spName : Sp := fun vs H Q _ => ∃ (v : V) (d : PyData), vs = [v] ∧ DatAt H v d ∧ strOk d ∧ ∀ H', Same H H' → Q (.bl (nameB d)) H'
section
variable {P : Program} {w : World} {K : PySem.W.Frag} {mg : Str → Option Value} {base : Heap}
abbrev nName : List Str := ["value", "letter"]
theorem scName : FnScope nName ["value"] (defScope sName) := ⟨rfl, rfl, rfl, by decide +kernel, rfl, by decide +kernel, by decide +kernel⟩
theorem ok_name {f aT : Addr} {fd : FuncData} (F : Fun K "is_name" "is_name" sName f fd) (gIsi : mg "isinstance" = none) (gStr : mg "str" = none) (gLen : mg "len" = none) (gAll : mg "all" = none)
    (mTak : mg "_TAKEN" = some (.ref aT)) (hTak : ∀ H, SqT K H aT (taken.map V.str)) : FnOk P w K mg base CX0 1 f fd ["value"] spName := by
  refine F.ok scName (fun vs H Q E h => ?_) (fun cdv A outer s H vs Q E hr h => ?_)
  · obtain ⟨v, d, rfl, _⟩ := h
    rfl
  · obtain ⟨v, d, rfl, hd, hz, k⟩ := h
    refine ⟨_, pss_cons (ps_if (PW.pt (pw_or (pt_not (pt_val (pe_callB call_isi (by rfl) gIsi (by decide +kernel) (pa_cons (pv 0) (pa_cons (pe_bltn (v := .ty "str") (by rfl) gStr (by decide +kernel) rfl) pa_nil)))))
        (pw_or1 (pt_not (pt_chain op_le op_le pe_int (pe_callB call_len_str (by rfl) gLen PySem.boot_len (pa_cons (pv 0) pa_nil)) pe_int))))) (pss_one (ps_ret pe_bl)) pss_nil)
      (pss_one (ps_ret (pe_and (pe_cmpR op_notIn_seq (pv 0) (pe_glob rfl mTak (v := .ref aT) rfl) (by rfl)) (pe_one (pe_callB (cr_all rfl) (by rfl) gAll (by decide +kernel) (pa_cons
        (pe_lc (own := [("letter", 1)]) (g := gName 1) (tt := tYes) rfl scName.nd (pi_str (pv 0))
          (blkOk_by (N := nName) (sc := defScope sName) (by decide +kernel)) (fun _ _ _ _ _ => pg_name (i := 1) scName.nd rfl (Or.inl rfl)) (fun _ _ _ _ _ => pts_nil)
          (fun _ _ _ _ _ => pe_chain op_le_str op_le_str pe_str (pv 1) pe_str)) pa_nil)))))), ?_⟩
    refine ⟨_, rfl, v, .ty "str", _, _, _, rfl, ClsV.ty "str", hd.ty, kit_str d, _, rfl, ?_⟩
    cases hd with
    | str x =>
      have hz : x.length ≤ 100000 := hz
      have le := Nat.le_of_lt (smallM hz)
      refine iteF ?_
      refine ⟨_, rfl, x, rfl, le, _, _, rfl, rfl, _, rfl, ?_⟩
      refine ite2 (fun c1 => ?_) (fun c1 => ?_)
      · have d1 : 1 ≤ x.length := by
          have := of_decide_eq_true c1
          omega
        refine ⟨_, _, rfl, rfl, _, rfl, ?_⟩
        by_cases d2 : x.length ≤ 6
        · refine iteNS (c := (x.length : Int) ≤ 6) (by omega) ?_
          have eg : goodB x = (!(taken.any fun y => y == x) && x.cps.toList.all azB) := by
            rw [goodB_eq, decide_eq_true d1, decide_eq_true d2]
            rfl
          refine ⟨_, rfl, aT, _, rfl, Or.inr (hTak _), rfl, rfl, _, rfl, ?_⟩
          show if (!inV (.str x) (taken.map V.str)) = true then _ else _
          rw [inV_taken]
          refine ite2 (fun c3 => ?_) (fun c3 => ?_)
          · refine ⟨_, rfl, x, rfl, fun D hD => ?_⟩
            refine lc_it walk_str (fun i H2 => H2 D = some (.lst (((x.cps.toList.take i).map azB).map V.bl)) ∧ Same H H2) ⟨by rw [upd_same]; rfl, Same.new hD⟩ (fun _ _ _ _ => trivial) ?_ ?_
            · intro i y H2 H3 hi ⟨a1, a2⟩ ⟨e1, c, ec, ey⟩
              subst e1 ey
              have el : x.cps.toList[i]? = some c := by simpa using ec
              have tk : x.cps.toList.take (i + 1) = x.cps.toList.take i ++ [c] := by
                rw [List.take_add_one, el]
                rfl
              have sz : (((x.cps.toList.take i).map azB).map V.bl).length < sizeLine := by
                rw [List.length_map, List.length_map, List.length_take]
                have : x.cps.size = x.length := rfl
                exact smallM (by omega)
              have fin : ∀ b : Bool, azB c = b → ∃ acc, H3 D = some (HO.lst acc) ∧ acc.length < sizeLine ∧ (upd H3 D (HO.lst (acc ++ [V.bl b]))) D = some (.lst (((x.cps.toList.take (i + 1)).map azB).map V.bl)) ∧ Same H (upd H3 D (HO.lst (acc ++ [V.bl b]))) := by
                intro b eb
                refine ⟨_, a1, sz, ?_, Same.newer hD a2⟩
                rw [upd_same, tk, List.map_append, List.map_append, ← eb]
                rfl
              refine ⟨rfl, _, rfl, _, _, rfl, rfl, _, rfl, ?_⟩
              have q1 : (!decide ((⟨#[c]⟩ : Str).cps.toList < (Str.ofString "a").cps.toList)) = decide (97 ≤ c) := by
                show (!decide ([c] < [97])) = _
                rw [one_lt]
                by_cases z : c < 97
                · rw [decide_eq_true z, decide_eq_false (by omega)]
                  rfl
                · rw [decide_eq_false z, decide_eq_true (by omega)]
                  rfl
              have q2 : (!decide ((Str.ofString "z").cps.toList < (⟨#[c]⟩ : Str).cps.toList)) = decide (c ≤ 122) := by
                show (!decide ([122] < [c])) = _
                rw [one_lt]
                by_cases z : 122 < c
                · rw [decide_eq_true z, decide_eq_false (by omega)]
                  rfl
                · rw [decide_eq_false z, decide_eq_true (by omega)]
                  rfl
              rw [q1]
              refine ite2 (fun z => ?_) (fun z => ?_)
              · refine ⟨_, _, rfl, rfl, ?_⟩
                have z' := of_decide_eq_true z
                rw [q2]
                exact fin _ (by unfold azB; rw [decide_eq_true z']; rfl)
              · have z' : ¬ 97 ≤ c := fun h => z (decide_eq_true h)
                exact fin _ (by unfold azB; rw [decide_eq_false z']; rfl)
            · intro H2 ⟨a1, a2⟩
              refine ⟨D, (x.cps.toList.map azB), rfl, SqL.of ?_, ?_⟩
              · rw [a1]
                have : x.cps.toList.take x.cps.size = x.cps.toList := List.take_of_length_le (by simp)
                rw [this]
              · have e : (x.cps.toList.map azB).all id = nameB (.str x) := by
                  show _ = goodB x
                  rw [eg, c3, Bool.true_and, List.all_map]
                  rfl
                rw [e]
                exact k _ a2
          · have e : nameB (.str x) = false := by
              show goodB x = false
              have c4 : (!(taken.any fun y => y == x)) = false := by simpa using c3
              rw [eg, c4]
              rfl
            rw [← e]
            exact k _ (Same.refl H)
        · have e : nameB (.str x) = false := by
            show goodB x = false
            rw [goodB_eq, decide_eq_false d2, Bool.and_false]
            rfl
          have z : (!decide ((x.length : Int) ≤ 6)) = true := by
            rw [decide_eq_false (by omega)]
            rfl
          show if (!decide ((x.length : Int) ≤ 6)) = true then _ else _
          rw [z]
          refine iteT ?_
          have q := k H (Same.refl H)
          rw [e] at q
          exact q
      · have d1 : ¬ 1 ≤ x.length := fun z => c1 (decide_eq_true (by omega))
        have e : nameB (.str x) = false := by
          show goodB x = false
          rw [goodB_eq, decide_eq_false d1]
          rfl
        have q := k H (Same.refl H)
        rw [e] at q
        exact ⟨_, rfl, q⟩
    | _ =>
      refine iteT ?_
      refine iteT ?_
      exact k H (Same.refl H)
end
mutual
def isT : PyData → Bool
  | .tuple xs => xs.length == 2 && isTAll xs
  | .str x => goodB x
  | _ => false
def isTAll : List PyData → Bool
  | [] => true
  | d :: ds => isT d && isTAll ds
end
mutual
/-- the parts of tuples within tuples -/
def nd : PyData → Nat
  | .tuple xs => 1 + ndAll xs
  | _ => 1
def ndAll : List PyData → Nat
  | [] => 0
  | d :: ds => nd d + ndAll ds
end
mutual
/-- no text is too long -/
def ok : PyData → Bool
  | .tuple xs => okAll xs
  | .str x => decide (x.length ≤ 100000)
  | _ => true
def okAll : List PyData → Bool
  | [] => true
  | d :: ds => ok d && okAll ds
end
theorem nd_pos (d : PyData) : 1 ≤ nd d := by
  cases d <;> simp only [nd] <;> omega
theorem ndAll_len : ∀ ds : List PyData, ds.length ≤ ndAll ds
  | [] => Nat.le_refl _
  | d :: ds => by
    have := nd_pos d
    have := ndAll_len ds
    simp only [List.length_cons, ndAll]
    omega
theorem ndAll_app : ∀ ds es : List PyData, ndAll (ds ++ es) = ndAll ds + ndAll es
  | [], es => by simp [ndAll]
  | d :: ds, es => by
    simp only [List.cons_append, ndAll, ndAll_app ds es]
    omega
theorem isTAll_app : ∀ ds es : List PyData, isTAll (ds ++ es) = (isTAll ds && isTAll es)
  | [], es => by simp [isTAll]
  | d :: ds, es => by simp only [List.cons_append, isTAll, isTAll_app ds es, Bool.and_assoc]
theorem okAll_app : ∀ ds es : List PyData, okAll (ds ++ es) = (okAll ds && okAll es)
  | [], es => by simp [okAll]
  | d :: ds, es => by simp only [List.cons_append, okAll, okAll_app ds es, Bool.and_assoc]

theorem ok_str {d : PyData} (h : ok d = true) : strOk d := by
  cases d with
  | str x =>
    show x.length ≤ 100000
    simpa [ok] using h
  | _ => trivial

def TreeAll (H : Hp) : List V → List T → Prop
  | [], [] => True
  | v :: vs, t :: ts => TreeAt H v t ∧ TreeAll H vs ts
  | _, _ => False
theorem TreeAll.length {H : Hp} : ∀ {vs : List V} {ts : List T}, TreeAll H vs ts → vs.length = ts.length
  | [], [], _ => rfl
  | _ :: _, _ :: _, h => by simp [h.2.length]
theorem TreeAll.append {H : Hp} : ∀ {vs ws : List V} {ts us : List T}, TreeAll H vs ts → TreeAll H ws us → TreeAll H (vs ++ ws) (ts ++ us)
  | [], _, [], _, _, q => q
  | _ :: _, _, _ :: _, _, h, q => ⟨h.1, h.2.append q⟩
theorem TreeAll.snoc {H : Hp} : ∀ {vs : List V} {v : V} {ts : List T}, TreeAll H (vs ++ [v]) ts → ∃ us u, ts = us ++ [u] ∧ TreeAll H vs us ∧ TreeAt H v u
  | [], _, [u], h => ⟨[], u, rfl, trivial, h.1⟩
  | [], _, _ :: _ :: _, h => h.2.elim
  | _ :: vs, _, t :: ts, h => by
    obtain ⟨us, u, rfl, h1, h2⟩ := TreeAll.snoc (vs := vs) h.2
    exact ⟨t :: us, u, rfl, ⟨h.1, h1⟩, h2⟩
/-- the row of waiting trees, the last first -/
def rows : List T → List Str
  | [] => []
  | t :: ts => rows ts ++ t.row
theorem rows_app : ∀ ts us : List T, rows (ts ++ us) = rows us ++ rows ts
  | [], us => by simp [rows]
  | t :: ts, us => by simp only [List.cons_append, rows, rows_app ts us, List.append_assoc]
def T.size : T → Nat
  | .leaf _ => 1
  | .node l r => 1 + l.size + r.size
def sizes : List T → Nat
  | [] => 0
  | t :: ts => t.size + sizes ts
theorem sizes_app : ∀ ts us : List T, sizes (ts ++ us) = sizes ts + sizes us
  | [], us => by simp [sizes]
  | t :: ts, us => by
    simp only [List.cons_append, sizes, sizes_app ts us]
    omega
theorem T.size_pos (t : T) : 1 ≤ t.size := by
  cases t <;> simp only [T.size] <;> omega
theorem sizes_len : ∀ ts : List T, ts.length ≤ sizes ts
  | [] => Nat.le_refl _
  | t :: ts => by
    have := t.size_pos
    have := sizes_len ts
    simp only [List.length_cons, sizes]
    omega
theorem T.size_row (t : T) : t.size + 1 = 2 * t.row.length := by
  induction t with
  | leaf x => rfl
  | node l r h1 h2 =>
    simp only [T.size, T.row, List.length_append]
    omega
theorem T.row_le (t : T) : t.row.length ≤ t.size := by
  have := t.size_row
  have := t.row_ne
  omega
theorem rows_le : ∀ ts : List T, (rows ts).length ≤ sizes ts
  | [] => Nat.le_refl _
  | t :: ts => by
    have := t.row_le
    have := rows_le ts
    simp only [rows, sizes, List.length_append]
    omega

def T.depth : T → Nat
  | .leaf _ => 0
  | .node l r => max l.depth r.depth + 1
theorem T.depth_row (t : T) : t.depth < t.row.length := by
  induction t with
  | leaf x => exact Nat.zero_lt_one
  | node l r h1 h2 =>
    simp only [T.depth, T.row, List.length_append]
    omega

/-! ### how long a text data makes -/
mutual
def wt : PyData → Nat
  | .list xs => wtAll xs + 4
  | .tuple xs => wtAll xs + 4
  | .dict _ => 0
  | .none => 4
  | .bool _ => 5
  | .int i => (toString i : Str).length
  | .str x => (reprText x).length
def wtAll : List PyData → Nat
  | [] => 0
  | d :: ds => wt d + 2 + wtAll ds
end
theorem list_text (ts : List Str) : (listText ts).length ≤ piled ts + 2 := by
  cases ts with
  | nil => decide +kernel
  | cons t r =>
    have h := textFrom_length_pos r 1 (("[" : Str) ++ (if (0 : Nat) > 0 then ", " else "" : String) ++ t) (Nat.succ_pos 0)
    have e1 : ((("[" : Str) ++ (if (0 : Nat) > 0 then ", " else "" : String) ++ t)).length = 1 + t.length := by
      rw [PySem.strLen_append, PySem.strLen_append]
      rfl
    have e2 : (listText (t :: r)).length = (textFrom 1 (("[" : Str) ++ (if (0 : Nat) > 0 then ", " else "" : String) ++ t) r).length + 1 := by
      show (textFrom 0 "[" (t :: r) ++ "]").length = _
      rw [PySem.strLen_append]
      rfl
    rw [e2, h, e1, piled_cons]
    omega
mutual
theorem shown_le : ∀ d : PyData, d.hasDict = false → d.shown.length ≤ wt d
  | .none, _ => by
    simp only [PyData.shown, wt]
    decide +kernel
  | .bool b, _ => by
    cases b <;> (simp only [PyData.shown, wt]; decide +kernel)
  | .int i, _ => by
    simp only [PyData.shown, wt]
    exact Nat.le_refl _
  | .str x, _ => by
    simp only [PyData.shown, wt]
    exact Nat.le_refl _
  | .list xs, h => by
    simp only [PyData.shown, wt]
    have h1 := shownAll_le xs (by simpa [PyData.hasDict] using h)
    have h2 := list_text (PyData.shownAll xs)
    omega
  | .tuple xs, h => by
    simp only [PyData.shown, wt]
    have h1 := shownAll_le xs (by simpa [PyData.hasDict] using h)
    have h2 := PySem.fmt_text (PyData.shownAll xs)
    omega
  | .dict _, h => by simp [PyData.hasDict] at h
theorem shownAll_le : ∀ ds : List PyData, PyData.hasDictAll ds = false → piled (PyData.shownAll ds) ≤ wtAll ds
  | [], _ => by simp [PyData.shownAll, wtAll, piled]
  | d :: ds, h => by
    have h' : d.hasDict = false ∧ PyData.hasDictAll ds = false := by simpa [PyData.hasDictAll] using h
    have h1 := shown_le d h'.1
    have h2 := shownAll_le ds h'.2
    simp only [PyData.shownAll, wtAll, piled_cons]
    omega
end
/-! ### trees as data -/
def T.data : T → PyData
  | .leaf x => .str x
  | .node l r => .tuple [l.data, r.data]
theorem TreeAt.dat {H : Hp} : ∀ {t : T} {v : V}, TreeAt H v t → DatAt H v t.data
  | .leaf x, v, h => by
    cases (show v = V.str x from h)
    exact .str x
  | .node l r, v, ⟨p, a, c, e, hp, h1, h2⟩ => by
    subst e
    exact .tup hp (.cons h1.dat (.cons h2.dat .nil))
def AllGood (t : T) : Prop := ∀ x ∈ t.row, Good x
theorem AllGood.l {l r : T} (h : AllGood (.node l r)) : AllGood l := fun x hx => h x (List.mem_append_left _ hx)
theorem AllGood.r {l r : T} (h : AllGood (.node l r)) : AllGood r := fun x hx => h x (List.mem_append_right _ hx)
theorem good_B {x : Str} (h : Good x) : goodB x = true := by
  have h1 : (taken.any fun y => y == x) = false := by
    rw [List.any_eq_false]
    intro y hy z
    have e : y = x := by simpa using z
    exact h.free (e ▸ hy)
  have h2 : x.cps.toList.all azB = true := by
    rw [List.all_eq_true]
    intro c hc
    have := h.low c hc
    unfold azB
    rw [decide_eq_true this.1, decide_eq_true this.2]
    rfl
  rw [goodB_eq, decide_eq_true h.one, decide_eq_true h.six, h1, h2]
  rfl
theorem good_wt {x : Str} (h : Good x) : (reprText x).length ≤ 62 := by
  have := StrLaws.reprText_len x fun c hc => by
    have := (h.low c hc).2
    exact Nat.lt_of_le_of_lt this (by decide)
  have := h.six
  omega
theorem good_strOk {x : Str} (h : Good x) : PyData.strOk x = true := by
  unfold PyData.strOk
  rw [Array.all_eq_true']
  intro c hc
  have := (h.low c (by simpa using hc)).2
  exact decide_eq_true (by omega)
structure Fit (n w k : Nat) (d : PyData) : Prop where
  ok : ok d = true
  lay : d.canLay0 = true
  sho : d.showable = true
  dep : d.depth ≤ n
  wid : wt d ≤ w
  nod : nd d ≤ k
theorem Fit.mono {n w k n' w' k' : Nat} {d : PyData} (h : Fit n w k d) (h1 : n ≤ n') (h2 : w ≤ w') (h3 : k ≤ k') : Fit n' w' k' d :=
  ⟨h.ok, h.lay, h.sho, Nat.le_trans h.dep h1, Nat.le_trans h.wid h2, Nat.le_trans h.nod h3⟩
theorem Fit.pair {n m w u k j : Nat} {d e : PyData} (h : Fit n w k d) (g : Fit m u j e) : Fit (max n m + 1) (w + u + 8) (1 + k + j) (.tuple [d, e]) := by
  refine ⟨?_, ?_, ?_, ?_, ?_, ?_⟩
  · simp only [K86.ok, okAll, h.ok, g.ok, Bool.and_self]
  · simp only [PyData.canLay0, PyData.canLayAll0, h.lay, g.lay, Bool.and_self]
  · simp only [PyData.showable, PyData.showableAll, h.sho, g.sho, Bool.and_self]
  · have := h.dep
    have := g.dep
    simp only [PyData.depth, PyData.depthAll]
    omega
  · have := h.wid
    have := g.wid
    simp only [wt, wtAll]
    omega
  · have := h.nod
    have := g.nod
    simp only [nd, ndAll]
    omega
theorem tree_fit : ∀ t : T, AllGood t → Fit t.depth (70 * t.size) t.size t.data
  | .leaf x, h => by
    have g := h x (List.mem_singleton.mpr rfl)
    refine ⟨?_, ?_, ?_, ?_, ?_, ?_⟩
    · have := g.six
      simp only [T.data, K86.ok]
      exact decide_eq_true (by omega)
    · simp only [T.data, PyData.canLay0]
      exact good_strOk g
    · simp only [T.data, PyData.showable]
    · simp only [T.data, PyData.depth]
      exact Nat.zero_le _
    · have := good_wt g
      simp only [T.data, wt, T.size]
      omega
    · simp only [T.data, nd, T.size]
      exact Nat.le_refl _
  | .node l r, h => by
    refine ((tree_fit l h.l).pair (tree_fit r h.r)).mono (Nat.le_refl _) ?_ ?_
    · simp only [T.size]
      omega
    · simp only [T.size]
      omega

/-- a def of the text, asked only where no repr is under way -/
theorem fun_okG {P : Program} {w : World} {K : PySem.W.Frag} {mg : Str → Option Value} {base : Heap} {x qual : Str} {st : Stmt} {f : Addr} {fd : FuncData} {N ps : List Str} {k : Nat} {sp : Sp} (F : Fun K x qual st f fd)
    (S : FnScope N ps (defScope st)) (len : ∀ vs H Q E, sp vs H Q E → vs.length = ps.length)
    (hbody : ∀ (cdv : Value) (A : Around) (outer : List Env) (s : Shared) (H : Hp) (vs : List V) (Q : VK) (E : XK), A.guards = some [] →
      Room k (A.deeper (envOfC qual (defScope st) s.heap.objs.size f cdv)) → sp vs H Q E →
      ∃ t, PSs (cxOf CX0 P w K mg base N qual (defScope st) f cdv A outer s H E).nox (defBody st) t ∧ t { nx := fun _ H' => Q .non H', rt := Q } (start N vs) H) : GOk P w K mg base CX0 (k + 1) f fd ps sp := by
  obtain ⟨oc, od, kV, doc, pm, an, cdv, ct, osl, rfl, lk, hcd⟩ := F.ex
  refine gok_of lk hcd S len fun A outer s H vs Q E hg hr hsp => ?_
  obtain ⟨t, h, q⟩ := hbody cdv A outer s H vs Q E hg hr hsp
  exact ⟨t, h.nox, q⟩
theorem Same.thenBut {H H1 H2 : Hp} {b : Addr} (hb : H b = none) (k1 : Same H H1) (k2 : But b H1 H2) : Same H H2 := fun c o e => k2 c o (k1 c o e) (ne_of_none e hb)

theorem Fit.shaped {n w k : Nat} {d : PyData} (h : Fit n w k d) (hn : n ≤ 64) : SeqAt.shaped d = true := by
  unfold SeqAt.shaped
  rw [h.lay, decide_eq_true (Nat.le_trans h.dep hn)]
  rfl
theorem Fit.short {n w k : Nat} {d : PyData} (h : Fit n w k d) (hw : w ≤ 1000000) : d.shown.length ≤ sizeLine := by
  have h1 := shown_le d (PyData.hasDict_of_canLay d h.lay)
  have h2 := h.wid
  rw [sizeLine_eq]
  omega
theorem Fit.eqv {n w k : Nat} {d : PyData} (h : Fit n w k d) : PyData.eqv d d = true := SeqAt.eqv_refl d h.lay

theorem allGood_of {ns row : List Str} {t : T} (g : ∀ x ∈ ns, Good x) (m : ∀ x ∈ row, x ∈ ns) (e : t.row = row) : AllGood t := fun x hx => g x (m x (e ▸ hx))

theorem Bag.same {H H' : Hp} {b : Addr} (h : Bag H b) (k : Same H H') : Bag H' b := by
  obtain ⟨x, y, z, e, r⟩ := h
  exact ⟨x, y, z, k _ _ e, r⟩
theorem Same.but {H H' : Hp} (b : Addr) (k : Same H H') : But b H H' := fun c o e _ => k c o e

abbrev sIsTree : Stmt := top 6
def spIsTree : Sp := fun vs H Q _ => ∃ (v : V) (d : PyData), vs = [v] ∧ DatAt H v d ∧ ok d = true ∧ nd d ≤ 1000000 ∧ ∀ H', Same H H' → Q (.bl (isT d)) H'
/-- what is true of a part that is no pair -/
theorem isT_name {d : PyData} (h : ∀ xs, d = .tuple xs → xs.length ≠ 2) : isT d = nameB d := by
  cases d with
  | tuple xs =>
    have e : (xs.length == 2) = false := by simpa using h xs rfl
    simp only [isT, nameB, e, Bool.false_and]
  | str x => simp only [isT, nameB]
  | _ => simp only [isT, nameB]
section
variable {P : Program} {w : World} {K : PySem.W.Frag} {mg : Str → Option Value} {base : Heap}
abbrev nIsTree : List Str := ["value", "waiting", "part"]
theorem scIsTree : FnScope nIsTree ["value"] (defScope sIsTree) := ⟨rfl, rfl, rfl, by decide +kernel, rfl, by decide +kernel, by decide +kernel⟩
theorem ok_isTree {f fN : Addr} {fd fdN : FuncData} (F : Fun K "is_tree" "is_tree" sIsTree f fd) (GN : FnOk P w K mg base CX0 1 fN fdN ["value"] spName) (bN : Binds K fdN ["value"] [])
    (mN : mg "is_name" = some (.ref fN)) (kN : PySem.W.keepIn K (.ref fN) = true) (gIsi : mg "isinstance" = none) (gTuple : mg "tuple" = none) (gLen : mg "len" = none) :
    FnOk P w K mg base CX0 2 f fd ["value"] spIsTree := by
  refine F.ok scIsTree (fun vs H Q E h => ?_) (fun cdv A outer s H vs Q E hr h => ?_)
  · obtain ⟨v, d, rfl, _⟩ := h
    rfl
  · obtain ⟨v, d, rfl, hd, hok, hn, k⟩ := h
    refine ⟨_, pss_cons (ps_set (i := 1) scIsTree.nd rfl (Or.inl rfl) (pe_lst (pa_cons (pv 0) pa_nil)))
      (pss_cons (ps_while PassesOwn.never (pt_truth (pv 1) (by intro _; rfl))
        (pss_cons (ps_set (i := 2) scIsTree.nd rfl (Or.inl rfl) (pe_bm0 PySem.F.plainAttrs_list PySem.F.slot_list_pop PySem.F.type_list_pop mt_pop (pv 1)))
        (pss_one (ps_if (PW.pt (pw_and (pt_val (pe_callB call_isi (by rfl) gIsi (by decide +kernel) (pa_cons (pv 2) (pa_cons (pe_bltn (v := .ty "tuple") (by rfl) gTuple (by decide +kernel) rfl) pa_nil))))
            (pw_and1 (pt_cmpR op_eq (pe_callB call_len_seq (by rfl) gLen PySem.boot_len (pa_cons (pv 2) pa_nil)) pe_int (nomark _)))))
          (pss_one (ps_expr (pe_bm PySem.F.plainAttrs_list PySem.F.slot_list_extend PySem.F.type_list_extend mt_extT (pv 1) (pa_cons (pv 2) pa_nil))))
          (pss_one (ps_if (pt_not (pt_val (pe_call GN hr rfl mN kN bN .nil pass0 (pa_cons (pv 2) pa_nil)))) (pss_one (ps_ret pe_bl)) pss_nil))))))
      (pss_one (ps_ret pe_bl))), ?_⟩
    refine ⟨_, rfl, (by show 1 ≤ sizeLine; decide), fun wl hw => ?_⟩
    refine ⟨fun m σ H1 => ∃ (vs : List V) (ds : List PyData) (pt : Option V), σ = [some v, some (.ref wl), pt] ∧ H1 wl = some (.lst vs) ∧ DatAll H vs ds ∧ ndAll ds = m ∧ m ≤ 1000000 ∧ okAll ds = true ∧ isT d = isTAll ds ∧ Same H H1,
      ⟨ndAll [d], [v], [d], none, rfl, upd_same, .cons hd .nil, rfl, by simp only [ndAll]; omega, by simp only [okAll, hok, Bool.and_true], by simp only [isTAll, Bool.and_true], Same.new hw⟩, ?_⟩
    rintro m σ H1 ⟨vs, ds, pt, rfl, a1, a2, a3, a4, a5, a6, a7⟩
    refine ⟨_, rfl, !vs.isEmpty, Or.inl ⟨vs, SqL.of a1, rfl⟩, ?_⟩
    rcases List.eq_nil_or_concat vs with rfl | ⟨ini, last, rfl⟩
    · cases a2
      have q := k H1 a7
      rw [a6] at q
      exact q
    · rw [List.concat_eq_append] at *
      obtain ⟨es, e, rfl, h1, h2⟩ := a2.snoc
      have nz : (!(ini ++ [last]).isEmpty) = true := by simp
      show if (!(ini ++ [last]).isEmpty) = true then _ else _
      rw [if_pos nz]
      refine ⟨_, fun _ _ z => z, ?_⟩
      refine ⟨_, rfl, Or.inl ⟨rfl, _, SqL.of a1⟩, wl, _, last, rfl, rfl, a1, by simp, ?_⟩
      rw [List.dropLast_concat]
      have s2 : Same H (upd H1 wl (.lst ini)) := Same.newer hw a7
      have okE : strOk e := by
        rw [okAll_app, Bool.and_eq_true] at a5
        have := a5.2
        simp only [okAll, Bool.and_true] at this
        exact ok_str this
      refine ⟨_, rfl, last, .ty "tuple", _, _, _, rfl, ClsV.ty "tuple", (h2.same s2).ty, kit_tuple e, _, rfl, ?_⟩
      cases e with
      | tuple xs =>
        cases h2 with
        | @tup a zs _ hp r =>
          have hp2 := s2 _ _ hp
          have zl := r.length
          refine iteT ?_
          refine ⟨_, rfl, a, _, rfl, Or.inr (SqT.of hp2), rfl, _, rfl, ?_⟩
          refine ite2 (fun c => ?_) (fun c => ?_)
          · have c2 : xs.length = 2 := by
              have := V.int.inj (of_decide_eq_true c)
              omega
            have il : ini.length ≤ 1000000 := by
              have e1 := h1.length
              have e2 := ndAll_len es
              rw [← a3, ndAll_app] at a4
              omega
            refine ⟨_, rfl, Or.inl ⟨rfl, _, SqL.of upd_same⟩, _, rfl, wl, a, ini, zs, rfl, rfl, upd_same, SqT.of hp2, ?_, ?_⟩
            · rw [sizeLine_eq]
              omega
            · refine ⟨ndAll (es ++ xs), ?_, ini ++ zs, es ++ xs, some (.ref a), rfl, upd_same, h1.append r, rfl, ?_, ?_, ?_, Same.newer hw s2⟩
              · rw [← a3, ndAll_app, ndAll_app, ndAll, ndAll, nd]
                omega
              · rw [← a3, ndAll_app, ndAll, ndAll, nd] at a4
                rw [ndAll_app]
                omega
              · rw [okAll_app, okAll, okAll, ok] at a5
                rw [okAll_app]
                simpa using a5
              · rw [a6, isTAll_app, isTAll_app, isTAll, isTAll, isT, c2]
                simp
          · have hne : isT (.tuple xs) = nameB (.tuple xs) := isT_name fun ys ey => by
              cases ey
              intro c2
              exact c (decide_eq_true (by rw [zl, c2]; rfl))
            have h2 : DatAt H (.ref a) (.tuple xs) := .tup hp r
            generalize V.ref a = last at *
            refine ⟨_, rfl, last, (PyData.tuple xs), rfl, h2.same s2, okE, fun H3 s3 => ⟨_, rfl, ?_⟩⟩
            cases nb : nameB (PyData.tuple xs) with
            | false =>
              refine iteT ?_
              have q := k H3 (s2.trans s3)
              have z : isT d = false := by rw [a6, isTAll_app, isTAll, isTAll, hne, nb]; simp
              rw [z] at q
              exact q
            | true =>
              refine iteF ?_
              refine ⟨ndAll es, by rw [← a3, ndAll_app, ndAll, ndAll]; have := nd_pos (PyData.tuple xs); omega, ini, es, some last, rfl, s3 _ _ upd_same, h1, rfl, ?_, ?_, ?_, s2.trans s3⟩
              · rw [← a3, ndAll_app] at a4
                omega
              · rw [okAll_app, Bool.and_eq_true] at a5
                exact a5.1
              · rw [a6, isTAll_app, isTAll, isTAll, hne, nb]
                simp
      | none =>
        have hne := isT_name (d := .none) (fun _ z => by cases z)
        refine iteF ?_
        refine ⟨_, rfl, last, PyData.none, rfl, h2.same s2, okE, fun H3 s3 => ⟨_, rfl, ?_⟩⟩
        cases nb : nameB PyData.none with
        | false =>
          refine iteT ?_
          have q := k H3 (s2.trans s3)
          have z : isT d = false := by rw [a6, isTAll_app, isTAll, isTAll, hne, nb]; simp
          rw [z] at q
          exact q
        | true =>
          refine iteF ?_
          refine ⟨ndAll es, by rw [← a3, ndAll_app, ndAll, ndAll]; have := nd_pos PyData.none; omega, ini, es, some last, rfl, s3 _ _ upd_same, h1, rfl, ?_, ?_, ?_, s2.trans s3⟩
          · rw [← a3, ndAll_app] at a4
            omega
          · rw [okAll_app, Bool.and_eq_true] at a5
            exact a5.1
          · rw [a6, isTAll_app, isTAll, isTAll, hne, nb]
            simp
      | bool y =>
        have hne := isT_name (d := .bool y) (fun _ z => by cases z)
        refine iteF ?_
        refine ⟨_, rfl, last, (PyData.bool y), rfl, h2.same s2, okE, fun H3 s3 => ⟨_, rfl, ?_⟩⟩
        cases nb : nameB (PyData.bool y) with
        | false =>
          refine iteT ?_
          have q := k H3 (s2.trans s3)
          have z : isT d = false := by rw [a6, isTAll_app, isTAll, isTAll, hne, nb]; simp
          rw [z] at q
          exact q
        | true =>
          refine iteF ?_
          refine ⟨ndAll es, by rw [← a3, ndAll_app, ndAll, ndAll]; have := nd_pos (PyData.bool y); omega, ini, es, some last, rfl, s3 _ _ upd_same, h1, rfl, ?_, ?_, ?_, s2.trans s3⟩
          · rw [← a3, ndAll_app] at a4
            omega
          · rw [okAll_app, Bool.and_eq_true] at a5
            exact a5.1
          · rw [a6, isTAll_app, isTAll, isTAll, hne, nb]
            simp
      | int y =>
        have hne := isT_name (d := .int y) (fun _ z => by cases z)
        refine iteF ?_
        refine ⟨_, rfl, last, (PyData.int y), rfl, h2.same s2, okE, fun H3 s3 => ⟨_, rfl, ?_⟩⟩
        cases nb : nameB (PyData.int y) with
        | false =>
          refine iteT ?_
          have q := k H3 (s2.trans s3)
          have z : isT d = false := by rw [a6, isTAll_app, isTAll, isTAll, hne, nb]; simp
          rw [z] at q
          exact q
        | true =>
          refine iteF ?_
          refine ⟨ndAll es, by rw [← a3, ndAll_app, ndAll, ndAll]; have := nd_pos (PyData.int y); omega, ini, es, some last, rfl, s3 _ _ upd_same, h1, rfl, ?_, ?_, ?_, s2.trans s3⟩
          · rw [← a3, ndAll_app] at a4
            omega
          · rw [okAll_app, Bool.and_eq_true] at a5
            exact a5.1
          · rw [a6, isTAll_app, isTAll, isTAll, hne, nb]
            simp
      | str y =>
        have hne := isT_name (d := .str y) (fun _ z => by cases z)
        refine iteF ?_
        refine ⟨_, rfl, last, (PyData.str y), rfl, h2.same s2, okE, fun H3 s3 => ⟨_, rfl, ?_⟩⟩
        cases nb : nameB (PyData.str y) with
        | false =>
          refine iteT ?_
          have q := k H3 (s2.trans s3)
          have z : isT d = false := by rw [a6, isTAll_app, isTAll, isTAll, hne, nb]; simp
          rw [z] at q
          exact q
        | true =>
          refine iteF ?_
          refine ⟨ndAll es, by rw [← a3, ndAll_app, ndAll, ndAll]; have := nd_pos (PyData.str y); omega, ini, es, some last, rfl, s3 _ _ upd_same, h1, rfl, ?_, ?_, ?_, s2.trans s3⟩
          · rw [← a3, ndAll_app] at a4
            omega
          · rw [okAll_app, Bool.and_eq_true] at a5
            exact a5.1
          · rw [a6, isTAll_app, isTAll, isTAll, hne, nb]
            simp
      | list y =>
        have hne := isT_name (d := .list y) (fun _ z => by cases z)
        refine iteF ?_
        refine ⟨_, rfl, last, (PyData.list y), rfl, h2.same s2, okE, fun H3 s3 => ⟨_, rfl, ?_⟩⟩
        cases nb : nameB (PyData.list y) with
        | false =>
          refine iteT ?_
          have q := k H3 (s2.trans s3)
          have z : isT d = false := by rw [a6, isTAll_app, isTAll, isTAll, hne, nb]; simp
          rw [z] at q
          exact q
        | true =>
          refine iteF ?_
          refine ⟨ndAll es, by rw [← a3, ndAll_app, ndAll, ndAll]; have := nd_pos (PyData.list y); omega, ini, es, some last, rfl, s3 _ _ upd_same, h1, rfl, ?_, ?_, ?_, s2.trans s3⟩
          · rw [← a3, ndAll_app] at a4
            omega
          · rw [okAll_app, Bool.and_eq_true] at a5
            exact a5.1
          · rw [a6, isTAll_app, isTAll, isTAll, hne, nb]
            simp
      | dict y => cases h2
end
end K86
namespace K86
open PySem PySem.Spec PyProof.Rows L2 Vr TL
/-! ### texts of trees -/
def tx : T → List Nat
  | .leaf x => x.cps.toList
  | .node l r => 40 :: (tx l ++ 32 :: (tx r ++ [41]))
def gx (d : Nat) : List Nat := if d = 40 then [32, 40, 32] else if d = 41 then [32, 41, 32] else [d]
theorem repl_one (c : Nat) (z : List Nat) : ∀ l : List Nat, StrLaws.replL [c] z l = l.flatMap fun d => if d = c then z else [d]
  | [] => by rw [StrLaws.replL_nil]; rfl
  | d :: r => by
    rw [List.flatMap_cons]
    by_cases h : d = c
    · rw [StrLaws.replL_hit (by simp) (by simp [h]), if_pos h]
      show z ++ StrLaws.replL [c] z ((d :: r).drop 1) = _
      rw [List.drop_succ_cons, List.drop_zero, repl_one c z r]
    · rw [StrLaws.replL_miss (by simp [h]), if_neg h, repl_one c z r]
      rfl
theorem repl_two (z : Str) : (Txt.replace (Txt.replace z (Str.ofString "(") (Str.ofString " ( ")) (Str.ofString ")") (Str.ofString " ) ")).cps.toList = z.cps.toList.flatMap gx := by
  rw [StrLaws.replace_list (by decide +kernel), StrLaws.replace_list (by decide +kernel)]
  rw [show (Str.ofString "(").cps.toList = [40] by decide +kernel, show (Str.ofString " ( ").cps.toList = [32, 40, 32] by decide +kernel,
    show (Str.ofString ")").cps.toList = [41] by decide +kernel, show (Str.ofString " ) ").cps.toList = [32, 41, 32] by decide +kernel]
  rw [repl_one, repl_one, List.flatMap_assoc]
  congr 1
  funext d
  unfold gx
  by_cases h : d = 40
  · subst h
    decide
  · by_cases h2 : d = 41
    · subst h2
      decide
    · simp [h, h2]
/-- the words of a text with its brackets parted -/
def wordsL (l : List Nat) : List (List Nat) := wfin ((l.flatMap gx).foldl wstep ([], []))
theorem words_are (z : Str) : (Txt.words (Txt.replace (Txt.replace z (Str.ofString "(") (Str.ofString " ( ")) (Str.ofString ")") (Str.ofString " ) "))).map tl = wordsL z.cps.toList := by
  rw [words_tl]
  show wfin ((Txt.replace (Txt.replace z (Str.ofString "(") (Str.ofString " ( ")) (Str.ofString ")") (Str.ofString " ) ")).cps.toList.foldl wstep ([], [])) = _
  rw [repl_two]
  rfl
def toks : T → List (List Nat)
  | .leaf x => [x.cps.toList]
  | .node l r => [40] :: (toks l ++ (toks r ++ [[41]]))
theorem w_blank (st : List (List Nat) × List Nat) : wstep st 32 = (wfin st, []) := by
  have h : Unicode.isSpace 32 = true := by decide +kernel
  unfold wstep wfin
  rw [if_pos h]
  by_cases e : st.2 = []
  · rw [if_pos e, if_pos e]
    obtain ⟨a, b⟩ := st
    dsimp only at e
    rw [e]
  · rw [if_neg e, if_neg e]
theorem w_sign {c : Nat} (h : Unicode.isSpace c = false) (st : List (List Nat) × List Nat) : wstep st c = (st.1, st.2 ++ [c]) := if_neg (by rw [h]; exact Bool.false_ne_true)
theorem low_noSpace : ∀ c : Nat, 97 ≤ c → c ≤ 122 → Unicode.isSpace c = false := by
  intro c h1 h2
  have h : ∀ i : _root_.Fin 26, Unicode.isSpace (97 + i.val) = false := by decide +kernel
  have := h ⟨c - 97, by omega⟩
  rw [show 97 + (c - 97) = c by omega] at this
  exact this
theorem low_gx : ∀ l : List Nat, (∀ c ∈ l, 97 ≤ c ∧ c ≤ 122) → l.flatMap gx = l
  | [], _ => rfl
  | c :: r, h => by
    have hc := h c List.mem_cons_self
    rw [List.flatMap_cons, low_gx r fun d hd => h d (List.mem_cons_of_mem _ hd)]
    have : gx c = [c] := by
      unfold gx
      rw [if_neg (by omega), if_neg (by omega)]
    rw [this]
    rfl
theorem words_tree : ∀ t : T, AllGood t → ∀ ws, wfin (((tx t).flatMap gx).foldl wstep (ws, [])) = ws ++ toks t
  | .leaf x, h, ws => by
    have g := h x (List.mem_singleton.mpr rfl)
    simp only [tx, toks]
    rw [low_gx _ g.low, wfold_word _ _ _ fun c hc => low_noSpace c (g.low c hc).1 (g.low c hc).2]
    have ne : x.cps.toList ≠ [] := fun z => by
      have := g.one
      have e : x.length = x.cps.toList.length := by simp [Str.length]
      rw [e, z] at this
      exact absurd this (by decide)
    unfold wfin
    dsimp only
    rw [List.nil_append, if_neg ne]
  | .node l r, h, ws => by
    have s40 : Unicode.isSpace 40 = false := by decide +kernel
    have s41 : Unicode.isSpace 41 = false := by decide +kernel
    simp only [tx, toks, List.flatMap_cons, List.flatMap_append, List.foldl_append]
    have g40 : gx 40 = [32, 40, 32] := rfl
    have g41 : gx 41 = [32, 41, 32] := rfl
    have g32 : gx 32 = [32] := rfl
    rw [g40, g32, g41]
    simp only [List.foldl_cons, List.foldl_nil, List.flatMap_nil]
    have a1 : wstep (wstep (wstep (ws, []) 32) 40) 32 = (ws ++ [[40]], []) := by
      rw [w_blank, w_sign s40, w_blank]
      simp [wfin]
    have a2 : ∀ st, wstep (wstep (wstep st 32) 41) 32 = (wfin st ++ [[41]], []) := fun st => by
      rw [w_blank, w_sign s41, w_blank]
      simp [wfin]
    have h1 := words_tree l h.l (ws ++ [[40]])
    have h2 := words_tree r h.r (ws ++ [[40]] ++ toks l)
    rw [a1, a2, w_blank, h1, h2]
    simp [wfin]
theorem wordsL_tree {t : T} (h : AllGood t) : wordsL (tx t) = toks t := by
  have e := words_tree t h []
  exact e
/-! ### the machine of the loose reader -/
def mstep (st : List (Option T)) (w : Str) : Option (List (Option T)) :=
  if w = Str.ofString "(" then some (none :: st)
  else if w = Str.ofString ")" then
    match st with
    | some r :: some l :: none :: rest => some (some (.node l r) :: rest)
    | _ => none
  else if goodB w = true then some (some (.leaf w) :: st) else none
def mrun : List (Option T) → List Str → Option (List (Option T))
  | st, [] => some st
  | st, w :: ws => (mstep st w).bind fun st' => mrun st' ws
def last1 : Option (List (Option T)) → Option T
  | some [some t] => some t
  | _ => none
def loose (ws : List Str) : Option T := last1 (mrun [] ws)
theorem mrun_app : ∀ (ws us : List Str) (st : List (Option T)), mrun st (ws ++ us) = (mrun st ws).bind fun st' => mrun st' us
  | [], _, _ => rfl
  | w :: ws, us, st => by
    simp only [List.cons_append, mrun]
    cases mstep st w with
    | none => rfl
    | some st' => exact mrun_app ws us st'
def toksS : T → List Str
  | .leaf x => [x]
  | .node l r => Str.ofString "(" :: (toksS l ++ (toksS r ++ [Str.ofString ")"]))
theorem tl_inj {a b : Str} (h : tl a = tl b) : a = b := PySem.Str.ext' (Array.toList_inj.mp h)
theorem map_tl_inj : ∀ {a b : List Str}, a.map tl = b.map tl → a = b
  | [], [], _ => rfl
  | [], _ :: _, h => by cases h
  | _ :: _, [], h => by cases h
  | x :: a, y :: b, h => by
    simp only [List.map_cons, List.cons.injEq] at h
    rw [tl_inj h.1, map_tl_inj h.2]
theorem toksS_tl : ∀ t : T, (toksS t).map tl = toks t
  | .leaf x => rfl
  | .node l r => by
    simp only [toksS, toks, List.map_cons, List.map_append, toksS_tl l, toksS_tl r, List.map_nil]
    rfl
theorem good_noBracket {x : Str} (h : Good x) : x ≠ Str.ofString "(" ∧ x ≠ Str.ofString ")" := by
  constructor <;>
  · intro e
    have l := h.low
    rw [e] at l
    revert l
    unfold Low
    decide +kernel
theorem mrun_tree : ∀ t : T, AllGood t → ∀ st, mrun st (toksS t) = some (some t :: st)
  | .leaf x, h, st => by
    have g := h x (List.mem_singleton.mpr rfl)
    obtain ⟨n1, n2⟩ := good_noBracket g
    simp only [toksS, mrun, mstep, if_neg n1, if_neg n2, if_pos (good_B g)]
    rfl
  | .node l r, h, st => by
    have ne : Str.ofString ")" ≠ Str.ofString "(" := by decide +kernel
    simp only [toksS, mrun, mstep, if_true, Option.bind_some]
    rw [mrun_app, mrun_tree l h.l, Option.bind_some, mrun_app, mrun_tree r h.r, Option.bind_some]
    simp only [mrun, mstep, if_neg ne, if_true]
    rfl
theorem loose_tree {t : T} (h : AllGood t) : loose (toksS t) = some t := by
  unfold loose
  rw [mrun_tree t h]
  rfl
def looseOf (z : Str) : Option T := loose (Txt.words (Txt.replace (Txt.replace z (Str.ofString "(") (Str.ofString " ( ")) (Str.ofString ")") (Str.ofString " ) ")))
theorem looseOf_tree {z : Str} {t : T} (h : AllGood t) (e : z.cps.toList = tx t) : looseOf z = some t := by
  have e1 := words_are z
  rw [e, wordsL_tree h, ← toksS_tl] at e1
  unfold looseOf
  rw [map_tl_inj e1, loose_tree h]
/-- the machine makes trees of names alone -/
def StGood (st : List (Option T)) : Prop := ∀ t, some t ∈ st → ∀ x ∈ t.row, goodB x = true
theorem mstep_good {st st' : List (Option T)} {w : Str} (h : StGood st) (e : mstep st w = some st') : StGood st' := by
  unfold mstep at e
  split at e
  · cases e
    intro t ht
    rcases List.mem_cons.mp ht with q | q
    · cases q
    · exact h t q
  · split at e
    · split at e
      · cases e
        rename_i r l rest
        intro t ht x hx
        rcases List.mem_cons.mp ht with q | q
        · cases q
          simp only [T.row, List.mem_append] at hx
          rcases hx with hx | hx
          · exact h l (by simp) x hx
          · exact h r (by simp) x hx
        · exact h t (by simp [q]) x hx
      · cases e
    · split at e
      · cases e
        rename_i g
        intro t ht x hx
        rcases List.mem_cons.mp ht with q | q
        · cases q
          simp only [T.row, List.mem_singleton] at hx
          rw [hx]
          exact g
        · exact h t q x hx
      · cases e
/-- how many signs the text of a tree has -/
theorem tx_pos : ∀ t : T, 0 ≤ (tx t).length := fun _ => Nat.zero_le _
end K86
namespace K86
open PySem PySem.Spec PyProof.Rows L2 Vr TL
abbrev sShow : Stmt := top 7
abbrev sMay : Stmt := top 10
def txs : List T → List Nat
  | [] => []
  | t :: ts => txs ts ++ tx t
theorem txs_app : ∀ ts us : List T, txs (ts ++ us) = txs us ++ txs ts
  | [], us => by simp [txs]
  | t :: ts, us => by simp only [List.cons_append, txs, txs_app ts us, List.append_assoc]
def T.wgt : T → Nat
  | .leaf _ => 1
  | .node l r => 4 + l.wgt + r.wgt
def wgs : List T → Nat
  | [] => 0
  | t :: ts => t.wgt + wgs ts
theorem wgs_app : ∀ ts us : List T, wgs (ts ++ us) = wgs ts + wgs us
  | [], us => by simp [wgs]
  | t :: ts, us => by
    simp only [List.cons_append, wgs, wgs_app ts us]
    omega
theorem T.wgt_pos (t : T) : 1 ≤ t.wgt := by
  cases t <;> simp only [T.wgt] <;> omega
theorem wgs_len : ∀ ts : List T, ts.length ≤ wgs ts
  | [] => Nat.le_refl _
  | t :: ts => by
    have := t.wgt_pos
    have := wgs_len ts
    simp only [List.length_cons, wgs]
    omega
def accL (acc : List Str) : List Nat := acc.flatMap fun y => y.cps.toList
theorem join_cps : ∀ l : List Str, (Str.join Str.empty l).cps.toList = accL l
  | [] => rfl
  | [x] => by simp [Str.join, accL]
  | x :: y :: r => by
    have e : Str.join Str.empty (x :: y :: r) = x ++ Str.join Str.empty (y :: r) := by
      show x ++ Str.empty ++ Str.join Str.empty (y :: r) = _
      rw [PySem.Str.append_empty]
    rw [e, app_cps, join_cps (y :: r)]
    rfl
theorem accL_len : ∀ l : List Str, (l.map fun x => x.length).sum = (accL l).length
  | [] => rfl
  | x :: l => by
    rw [List.map_cons, List.sum_cons, accL_len l]
    show _ = (x.cps.toList ++ accL l).length
    rw [List.length_append]
    rfl
def spShow : Sp := fun vs H Q _ => ∃ (v : V) (t : T), vs = [v] ∧ TreeAt H v t ∧ t.wgt ≤ 1000000 ∧ (tx t).length ≤ 1000000 ∧ ∀ (z : Str) (H' : Hp), z.cps.toList = tx t → Same H H' → Q (.str z) H'
def mayR : List V → Bool
  | r :: l :: n :: _ => decide (n = .non) && !decide (l = .non) && !decide (r = .non)
  | _ => false
def spMay : Sp := fun vs H Q _ => ∃ (p : Addr) (rv : List V), vs = [.ref p] ∧ H p = some (.lst rv.reverse) ∧ ∀ H', Same H H' → Q (.bl (mayR rv)) H'
theorem at_back {α : Type} (xs : List α) (k : Nat) (v : α) (h : xs[k]? = some v) : atI xs.reverse (-((k : Int) + 1)) = some v := by
  have hk := (List.getElem?_eq_some_iff.mp h).1
  unfold atI ixN
  rw [if_neg (by omega), if_pos (by rw [List.length_reverse]; omega)]
  show xs.reverse[_]? = some v
  rw [List.length_reverse]
  have e : (-((k : Int) + 1) + (xs.length : Int)).toNat = xs.length - 1 - k := by omega
  rw [e, List.getElem?_reverse (by omega)]
  rw [← h]
  congr 1
  omega
section
variable {P : Program} {w : World} {K : PySem.W.Frag} {mg : Str → Option Value} {base : Heap}
abbrev nShow : List Str := ["tree", "words", "waiting", "part", "left", "right"]
theorem scShow : FnScope nShow ["tree"] (defScope sShow) := ⟨rfl, rfl, rfl, by decide +kernel, rfl, by decide +kernel, by decide +kernel⟩
theorem ok_show {f : Addr} {fd : FuncData} (F : Fun K "show_tree" "show_tree" sShow f fd) (gIsi : mg "isinstance" = none) (gStr : mg "str" = none) :
    FnOk P w K mg base CX0 1 f fd ["tree"] spShow := by
  refine F.ok scShow (fun vs H Q E h => ?_) (fun cdv A outer s H vs Q E hr h => ?_)
  · obtain ⟨v, t, rfl, _⟩ := h
    rfl
  · obtain ⟨v, t, rfl, ht, hn, hx, k⟩ := h
    refine ⟨_, pss_cons (ps_set (i := 1) scShow.nd rfl (Or.inl rfl) (pe_lst pa_nil))
      (pss_cons (ps_set (i := 2) scShow.nd rfl (Or.inl rfl) (pe_lst (pa_cons (pv 0) pa_nil)))
      (pss_cons (ps_while PassesOwn.never (pt_truth (pv 2) (by intro _; rfl))
        (pss_cons (ps_set (i := 3) scShow.nd rfl (Or.inl rfl) (pe_bm0 PySem.F.plainAttrs_list PySem.F.slot_list_pop PySem.F.type_list_pop mt_pop (pv 2)))
        (pss_one (ps_if (pt_val (pe_callB call_isi (by rfl) gIsi (by decide +kernel) (pa_cons (pv 3) (pa_cons (pe_bltn (v := .ty "str") (by rfl) gStr (by decide +kernel) rfl) pa_nil))))
          (pss_one (ps_expr (pe_bm PySem.F.plainAttrs_list PySem.F.slot_list_append PySem.F.type_list_append mt_append (pv 1) (pa_cons (pv 3) pa_nil))))
          (pss_cons (ps_asg (pv 3) (pg_tup rfl (pgs_cons (pg_name (i := 4) scShow.nd rfl (Or.inl rfl)) (pgs_cons (pg_name (i := 5) scShow.nd rfl (Or.inl rfl)) pgs_nil))))
          (pss_one (ps_expr (pe_bm PySem.F.plainAttrs_list PySem.F.slot_list_extend PySem.F.type_list_extend mt_extend (pv 2) (pa_cons (pe_lst (pa_cons pe_str (pa_cons (pv 5) (pa_cons pe_str (pa_cons (pv 4) (pa_cons pe_str pa_nil)))))) pa_nil)))))))))
      (pss_one (ps_ret (pe_join pe_str (pv 1)))))), ?_⟩
    refine ⟨(by show 0 ≤ sizeLine; decide), fun rl hrl => ?_⟩
    refine ⟨_, rfl, (by show 1 ≤ sizeLine; decide), fun wl hw => ?_⟩
    have s0 : Same H (upd H rl (.lst [])) := Same.new hrl
    have hwH : H wl = none := s0.free hw
    have nrw : rl ≠ wl := fun z => by
      rw [← z, upd_same] at hw
      cases hw
    refine ⟨fun m σ H1 => ∃ (vs : List V) (ts : List T) (acc : List Str) (o3 o4 o5 : Option V), σ = [some v, some (.ref rl), some (.ref wl), o3, o4, o5] ∧ H1 wl = some (.lst vs) ∧ H1 rl = some (.lst (acc.map V.str)) ∧
        TreeAll H vs ts ∧ wgs ts = m ∧ acc.length + m ≤ 1000000 ∧ tx t = accL acc ++ txs ts ∧ Same H H1,
      ⟨wgs [t], [v], [t], [], none, none, none, rfl, upd_same, ?_, ⟨ht, trivial⟩, rfl, by simp only [wgs, List.length_nil]; omega, by simp [txs, accL], s0.trans (Same.new hw)⟩, ?_⟩
    · rw [upd_ne nrw, upd_same]
      rfl
    rintro m σ H1 ⟨vs, ts, acc, o3, o4, o5, rfl, a1, b1, a2, a3, a4, a5, a7⟩
    refine ⟨_, rfl, !vs.isEmpty, Or.inl ⟨vs, SqL.of a1, rfl⟩, ?_⟩
    rcases List.eq_nil_or_concat vs with rfl | ⟨ini, last, rfl⟩
    · have e : ts = [] := by
        cases ts with
        | nil => rfl
        | cons _ _ => exact a2.elim
      subst e
      have a5' : tx t = accL acc := by rw [a5, txs, List.append_nil]
      refine ⟨⟨_, rfl⟩, _, rfl, _, rl, acc, rfl, rfl, Or.inl (SqL.of b1), ?_, ?_⟩
      · have z : (Str.ofString "").length = 0 := rfl
        rw [accL_len, ← a5', z]
        omega
      · refine k _ _ ?_ a7
        have ej : Txt.join (Str.ofString "") acc = Str.join Str.empty acc := StrLaws.glued_eq_join _ _
        rw [ej, join_cps, a5']
    · rw [List.concat_eq_append] at *
      obtain ⟨es, e, rfl, h1, h2⟩ := a2.snoc
      have nz : (!(ini ++ [last]).isEmpty) = true := by simp
      show if (!(ini ++ [last]).isEmpty) = true then _ else _
      rw [if_pos nz]
      refine ⟨_, fun _ _ z => z, ?_⟩
      refine ⟨_, rfl, Or.inl ⟨rfl, _, SqL.of a1⟩, wl, _, last, rfl, rfl, a1, by simp, ?_⟩
      rw [List.dropLast_concat]
      have s2 : Same H (upd H1 wl (.lst ini)) := Same.newer hwH a7
      have b2 : (upd H1 wl (.lst ini)) rl = some (.lst (acc.map V.str)) := by
        rw [upd_ne nrw]
        exact b1
      have il : ini.length ≤ 1000000 := by
        have e1 := h1.length
        have e2 := wgs_len es
        rw [← a3, wgs_app] at a4
        omega
      cases e with
      | leaf x =>
        cases (show last = V.str x from h2)
        refine ⟨_, rfl, .str x, .ty "str", _, _, _, rfl, ClsV.ty "str", .base (.str x), kit_str (.str x), _, rfl, ?_⟩
        refine iteT ?_
        refine ⟨_, rfl, Or.inl ⟨rfl, _, SqL.of b2⟩, _, rfl, rl, _, _, rfl, rfl, b2, ?_, ?_⟩
        · rw [List.length_map, sizeLine_eq]
          omega
        · refine ⟨wgs es, ?_, ini, es, acc ++ [x], some (.str x), o4, o5, rfl, ?_, ?_, h1, rfl, ?_, ?_, Same.newer hrl s2⟩
          · rw [← a3, wgs_app, wgs, wgs, T.wgt]
            omega
          · rw [upd_ne nrw.symm, upd_same]
          · rw [upd_same, List.map_append]
            rfl
          · rw [← a3, wgs_app, wgs, wgs, T.wgt] at a4
            rw [List.length_append, List.length_singleton]
            omega
          · rw [a5, txs_app]
            simp [txs, tx, accL]
      | node l r =>
        obtain ⟨p, va, vc, rfl, hp, hl, hr'⟩ := h2
        have hp2 := s2 _ _ hp
        refine ⟨_, rfl, .ref p, .ty "str", _, _, _, rfl, ClsV.ty "str", .base (.tup hp2), kit_str (.tuple []), _, rfl, ?_⟩
        refine iteF ?_
        refine ⟨_, rfl, p, _, rfl, SqT.of hp2, rfl, _, _, rfl, _, _, rfl, rfl, ?_⟩
        refine ⟨_, rfl, Or.inl ⟨rfl, _, SqL.of upd_same⟩, _, rfl, _, rfl, (by show 5 ≤ sizeLine; decide), fun q hq => ?_⟩
        have nwq : wl ≠ q := fun z => by
          rw [← z, upd_same] at hq
          cases hq
        have nrq : rl ≠ q := fun z => by
          rw [← z, b2] at hq
          cases hq
        have w3 : (upd (upd H1 wl (.lst ini)) q (.lst [.str (Str.ofString ")"), vc, .str (Str.ofString " "), va, .str (Str.ofString "(")])) wl = some (.lst ini) := by
          rw [upd_ne nwq, upd_same]
        refine ⟨wl, q, ini, [.str (Str.ofString ")"), vc, .str (Str.ofString " "), va, .str (Str.ofString "(")], rfl, rfl, w3, upd_same, ?_, ?_⟩
        · rw [sizeLine_eq]
          show ini.length + 5 ≤ _
          omega
        · refine ⟨wgs (es ++ [.leaf (Str.ofString ")"), r, .leaf (Str.ofString " "), l, .leaf (Str.ofString "(")]), ?_, _, es ++ [.leaf (Str.ofString ")"), r, .leaf (Str.ofString " "), l, .leaf (Str.ofString "(")], acc, some (.ref p), some va, some vc, rfl, upd_same, ?_,
            h1.append ⟨rfl, hr', rfl, hl, rfl, trivial⟩, rfl, ?_, ?_, Same.newer hwH (s2.trans (Same.new hq))⟩
          · rw [← a3, wgs_app, wgs_app]
            simp only [wgs, T.wgt]
            omega
          · rw [upd_ne nrw, upd_ne nrq]
            exact b2
          · rw [← a3, wgs_app] at a4
            rw [wgs_app]
            simp only [wgs, T.wgt] at a4 ⊢
            omega
          · rw [a5, txs_app, txs_app]
            have e1 : (Str.ofString ")").cps.toList = [41] := by decide +kernel
            have e2 : (Str.ofString " ").cps.toList = [32] := by decide +kernel
            have e3 : (Str.ofString "(").cps.toList = [40] := by decide +kernel
            simp [txs, tx, e1, e2, e3]
theorem scMay : FnScope ["done"] ["done"] (defScope sMay) := ⟨rfl, rfl, rfl, by decide +kernel, rfl, by decide +kernel, by decide +kernel⟩
theorem ok_may {f : Addr} {fd : FuncData} (F : Fun K "_may_close" "_may_close" sMay f fd) (gLen : mg "len" = none) : FnOk P w K mg base CX0 1 f fd ["done"] spMay := by
  refine F.ok scMay (fun vs H Q E h => ?_) (fun cdv A outer s H vs Q E hr h => ?_)
  · obtain ⟨p, rv, rfl, _⟩ := h
    rfl
  · obtain ⟨p, rv, rfl, hp, k⟩ := h
    refine ⟨_, pss_cons (ps_if (PW.pt (pw_or (pt_cmpR op_lt (pe_callB call_len_seq (by rfl) gLen PySem.boot_len (pa_cons (pv 0) pa_nil)) pe_int (nomark _))
          (pw_or1 (pt_cmpR op_notN (pe_ix ix_list (pv 0) (pe_un un_neg pe_int) (fun _ _ => rfl)) pe_non (nomark _))))) (pss_one (ps_ret pe_bl)) pss_nil)
      (pss_one (ps_ret (pe_and (pe_cmpR op_notN (pe_ix ix_list (pv 0) (pe_un un_neg pe_int) (fun _ _ => rfl)) pe_non (nomark _)) (pe_one (pe_cmpR op_notN (pe_ix ix_list (pv 0) (pe_un un_neg pe_int) (fun _ _ => rfl)) pe_non (nomark _)))))), ?_⟩
    refine ⟨_, rfl, p, _, rfl, Or.inl (SqL.of hp), _, _, rfl, rfl, _, rfl, ?_⟩
    have ke := k H (Same.refl H)
    match rv, hp, ke with
    | [], _, ke => exact ke
    | [_], _, ke => exact ke
    | [_, _], _, ke => exact ke
    | r :: l :: n :: rest, hp, ke =>
      have big : ¬ (((r :: l :: n :: rest).reverse.length : Nat) : Int) < 3 := by
        simp only [List.length_reverse, List.length_cons]
        omega
      rw [decide_eq_false big]
      refine iteF ?_
      refine ⟨_, rfl, _, rfl, p, _, _, n, rfl, rfl, SqL.of hp, at_back (r :: l :: n :: rest) 2 n rfl, ?_⟩
      refine ⟨rfl, _, rfl, ?_⟩
      show if (!decide (n = V.non)) = true then _ else _
      by_cases c1 : n = V.non
      · rw [decide_eq_true c1]
        refine iteF ?_
        refine ⟨_, rfl, _, rfl, p, _, _, l, rfl, rfl, SqL.of hp, at_back (r :: l :: n :: rest) 1 l rfl, rfl, _, rfl, ?_⟩
        show if (!decide (l = V.non)) = true then _ else _
        by_cases c2 : l = V.non
        · rw [decide_eq_true c2]
          refine iteF ?_
          have e : mayR (r :: l :: n :: rest) = false := by simp [mayR, c1, c2]
          rw [e] at ke
          exact ke
        · rw [decide_eq_false c2]
          refine iteT ?_
          refine ⟨_, rfl, _, rfl, p, _, _, r, rfl, rfl, SqL.of hp, at_back (r :: l :: n :: rest) 0 r rfl, rfl, ?_⟩
          have e : mayR (r :: l :: n :: rest) = !decide (r = V.non) := by simp [mayR, c1, c2]
          rw [e] at ke
          exact ke
      · rw [decide_eq_false c1]
        refine iteT ?_
        have e : mayR (r :: l :: n :: rest) = false := by simp [mayR, c1]
        rw [e] at ke
        exact ke
end
end K86
namespace K86
open PySem PySem.Spec PyProof.Rows L2 Vr TL CwR
abbrev sLoose : Stmt := top 9
abbrev sRead : Stmt := top 8
section
variable {X : Cx} {o : Expr} {to : TE} {apos pos : Pos}
/-- text.split(), a token being out -/
theorem pet_words (ho : PET X o to) (hbase : attributeBase o "split" X.env (eval o X.env) = eval o X.env := by rfl) (hline : (apos.endLine == pos.line) = true := by rfl) :
    PET X (.Call (.Attribute o "split" apos) [] [] pos)
      (tM0 (fun x xs H Q => ∃ a, x = .str a ∧ xs = [] ∧ a.length + 2 ≤ sizeLine ∧ rNewStrs (Txt.words a) H Q) to) := by
  intro pins s σ H Q t1 I h
  refine PySem.Call_method0 hbase hline (thn (ho pins s σ H _ t1 I h) ?_)
  intro v s1 ⟨x, H1, I1, rx, ⟨a, ea⟩, q⟩
  subst ea
  obtain ⟨tk, ev⟩ := rx
  subst ev
  refine ⟨"str", _, PySem.F.plainAttrs_str, PySem.F.slot_str_split, PySem.F.type_str_split, typeIs_str _ _ _, (fun _ e => nomatch e), ?_⟩
  exact Calls.callWith_builtin rfl (PySem.evalArgs_none (mt_words pins s1 σ H1 (.str a) [] _ [] Q I1 (show ∃ t, Value.str a tk = Value.str a t from ⟨tk, rfl⟩) .nil q))
theorem psst_nox {st : List Stmt} {t : TS} (h : PSsT X.nox st t) : PSsT X st t := fun pins s σ H D t1 I hw =>
  wpAny_mono (h pins s σ H D t1 (I.wish _) hw) (fun _ _ q => q.unwish) fun _ _ z => False.elim z
end
/-! ### the stack of the loose reader -/
def OptAt (H : Hp) : V → Option T → Prop
  | v, none => v = .non
  | v, some t => TreeAt H v t
def StAt (H : Hp) : List V → List (Option T) → Prop
  | [], [] => True
  | v :: vs, o :: os => OptAt H v o ∧ StAt H vs os
  | _, _ => False
theorem TreeAt.ne {H : Hp} {v : V} {t : T} (h : TreeAt H v t) : v ≠ .non := by
  cases t with
  | leaf x =>
    cases (show v = V.str x from h)
    exact fun z => nomatch z
  | node l r =>
    obtain ⟨p, a, c, rfl, _⟩ := h
    exact fun z => nomatch z
theorem StAt.keep {H H' : Hp} (k : ∀ p xs, H p = some (.tup xs) → H' p = some (.tup xs)) : ∀ {vs : List V} {os : List (Option T)}, StAt H vs os → StAt H' vs os
  | [], [], _ => trivial
  | _ :: _, none :: _, h => ⟨h.1, StAt.keep k h.2⟩
  | _ :: _, some _ :: _, h => ⟨TreeAt.keep k h.1, StAt.keep k h.2⟩
theorem StAt.length {H : Hp} : ∀ {vs : List V} {os : List (Option T)}, StAt H vs os → vs.length = os.length
  | [], [], _ => rfl
  | _ :: _, _ :: _, h => by simp [h.2.length]
/-- a list is changed: trees stay -/
theorem keepL {H : Hp} {d : Addr} {xs ys : List V} (h : H d = some (.lst xs)) : ∀ p zs, H p = some (.tup zs) → (upd H d (.lst ys)) p = some (.tup zs) := fun p zs e => by
  have ne : p ≠ d := fun z => by
    rw [z, h] at e
    cases e
  rw [upd_ne ne]
  exact e
theorem keepN {H : Hp} {d : Addr} {o : HO} (h : H d = none) : ∀ p zs, H p = some (.tup zs) → (upd H d o) p = some (.tup zs) := fun p zs e => by
  rw [upd_ne (ne_of_none e h)]
  exact e
theorem mstep_len {st st' : List (Option T)} {w : Str} (e : mstep st w = some st') : st'.length ≤ st.length + 1 := by
  unfold mstep at e
  split at e
  · cases e
    simp
  · split at e
    · split at e
      · cases e
        simp only [List.length_cons]
        omega
      · cases e
    · split at e
      · cases e
        simp
      · cases e
theorem mrun_len : ∀ (ws : List Str) (st st' : List (Option T)), mrun st ws = some st' → st'.length ≤ st.length + ws.length
  | [], st, st', e => by
    cases e
    simp
  | w :: ws, st, st', e => by
    simp only [mrun] at e
    cases h : mstep st w with
    | none =>
      rw [h] at e
      cases e
    | some st1 =>
      rw [h] at e
      have h1 := mstep_len h
      have h2 := mrun_len ws st1 st' e
      simp only [List.length_cons]
      omega
theorem may_yes {H : Hp} : ∀ {rv : List V} {st : List (Option T)}, StAt H rv st → mayR rv = true → ∃ vr vl rv' r l rest, rv = vr :: vl :: V.non :: rv' ∧ st = some r :: some l :: none :: rest ∧ TreeAt H vr r ∧ TreeAt H vl l ∧ StAt H rv' rest
  | vr :: vl :: vn :: rv', orr :: ol :: on :: rest, h, e => by
    simp only [mayR, Bool.and_eq_true, decide_eq_true_eq, Bool.not_eq_true', decide_eq_false_iff_not] at e
    obtain ⟨⟨e1, e2⟩, e3⟩ := e
    obtain ⟨h1, h2, h3, h4⟩ := h
    cases orr with
    | none => exact absurd h1 e3
    | some r =>
      cases ol with
      | none => exact absurd h2 e2
      | some l =>
        cases on with
        | some n => exact absurd e1 (TreeAt.ne h3)
        | none =>
          subst e1
          exact ⟨vr, vl, rv', r, l, rest, rfl, rfl, h1, h2, h4⟩
  | [], _, _, e => by cases e
  | [_], _, _, e => by cases e
  | [_, _], _, _, e => by cases e
theorem may_no {H : Hp} {rv : List V} {st : List (Option T)} (h : StAt H rv st) (e : mayR rv = false) : mstep st (Str.ofString ")") = none := by
  have ne : Str.ofString ")" ≠ Str.ofString "(" := by decide +kernel
  unfold mstep
  rw [if_neg ne, if_pos rfl]
  split
  · rename_i r l rest
    match rv, h with
    | vr :: vl :: vn :: rv', ⟨h1, h2, h3, h4⟩ =>
      have n1 := TreeAt.ne h1
      have n2 := TreeAt.ne h2
      have n3 : vn = V.non := h3
      simp [mayR, n1, n2, n3] at e
  · rfl
/-- the text with its brackets parted -/
abbrev parted (z : Str) : Str := Txt.replace (Txt.replace z (Str.ofString "(") (Str.ofString " ( ")) (Str.ofString ")") (Str.ofString " ) ")
theorem parted_len (z : Str) : (parted z).length ≤ 3 * z.length := by
  have e := repl_two z
  have e2 : ∀ l : List Nat, (l.flatMap gx).length ≤ 3 * l.length := by
    intro l
    induction l with
    | nil => exact Nat.le_refl _
    | cons d r ih =>
      rw [List.flatMap_cons, List.length_append, List.length_cons]
      have : (gx d).length ≤ 3 := by
        unfold gx
        split
        · exact Nat.le_refl _
        · split <;> simp
      omega
  have h1 : (parted z).length = (parted z).cps.toList.length := by simp [Str.length]
  have h2 : z.length = z.cps.toList.length := by simp [Str.length]
  rw [h1, h2, e]
  exact e2 _
def spLoose : Sp := fun vs H Q _ => ∃ z : Str, vs = [.str z] ∧ z.length ≤ 10000 ∧ ∀ (v : V) (H' : Hp), OptAt H' v (looseOf z) → Same H H' → Q v H'
section
variable {P : Program} {w : World} {K : PySem.W.Frag} {mg : Str → Option Value} {base : Heap}
abbrev nLoose : List Str := ["text", "done", "word", "right", "left"]
theorem scLoose : FnScope nLoose ["text"] (defScope sLoose) := ⟨rfl, rfl, rfl, by decide +kernel, rfl, by decide +kernel, by decide +kernel⟩
theorem ok_loose {f fM fN : Addr} {fd fdM fdN : FuncData} (F : Fun K "_read_loosely" "_read_loosely" sLoose f fd) (GM : FnOk P w K mg base CX0 1 fM fdM ["done"] spMay) (bM : Binds K fdM ["done"] [])
    (mM : mg "_may_close" = some (.ref fM)) (kM : PySem.W.keepIn K (.ref fM) = true) (GN : FnOk P w K mg base CX0 1 fN fdN ["value"] spName) (bN : Binds K fdN ["value"] [])
    (mN : mg "is_name" = some (.ref fN)) (kN : PySem.W.keepIn K (.ref fN) = true) (gLen : mg "len" = none) :
    FnOk P w K mg base CX0 2 f fd ["text"] spLoose := by
  obtain ⟨oc, od, kV, doc, pm, an, cdv, ct, osl, rfl, lk, hcd⟩ := F.ex
  refine fn_ofT lk hcd scLoose (by decide +kernel) (by decide) (fun vs H Q E h => ?_) (fun A outer s H vs Q E hr h => ?_)
  · obtain ⟨z, rfl, _⟩ := h
    rfl
  · obtain ⟨z, rfl, hz, k⟩ := h
    refine ⟨_, psst_nox (psst_cons (PST.of (ps_set (i := 1) scLoose.nd rfl (Or.inl rfl) (pe_lst pa_nil)))
      (psst_cons (pst_for PassesOwn.never rfl (pit_list (pet_words (pet_replT (pet_replC (pv 0))))) (pg_name (i := 2) scLoose.nd rfl (Or.inl rfl))
        (pss_one (ps_if (pt_cmpR op_eq (pv 2) pe_str (nomark _))
          (pss_one (ps_expr (pe_bm PySem.F.plainAttrs_list PySem.F.slot_list_append PySem.F.type_list_append mt_append (pv 1) (pa_cons pe_non pa_nil))))
          (pss_one (ps_if (pt_cmpR op_eq (pv 2) pe_str (nomark _))
            (pss_cons (ps_if (pt_not (pt_val (pe_call GM hr rfl mM kM bM .nil pass0 (pa_cons (pv 1) pa_nil)))) (pss_one (ps_ret pe_non)) pss_nil)
            (pss_cons (ps_set (i := 3) scLoose.nd rfl (Or.inl rfl) (pe_bm0 PySem.F.plainAttrs_list PySem.F.slot_list_pop PySem.F.type_list_pop mt_pop (pv 1)))
            (pss_cons (ps_set (i := 4) scLoose.nd rfl (Or.inl rfl) (pe_bm0 PySem.F.plainAttrs_list PySem.F.slot_list_pop PySem.F.type_list_pop mt_pop (pv 1)))
            (pss_one (ps_asg (pe_tup (pa_cons (pv 4) (pa_cons (pv 3) pa_nil))) (pg_sub (pv 1) (pe_un un_neg pe_int) set_list))))))
            (pss_one (ps_if (pt_val (pe_call GN hr rfl mN kN bN .nil pass0 (pa_cons (pv 2) pa_nil)))
              (pss_one (ps_expr (pe_bm PySem.F.plainAttrs_list PySem.F.slot_list_append PySem.F.type_list_append mt_append (pv 1) (pa_cons (pv 2) pa_nil))))
              (pss_one (ps_ret pe_non)))))))))
      (PSsT.of (pss_one (ps_ret (pe_ifExp (pt_cmpR op_eq (pe_callB call_len_seq (by rfl) gLen PySem.boot_len (pa_cons (pv 1) pa_nil)) pe_int (nomark _)) (pe_ix ix_list (pv 1) pe_int (fun _ _ => rfl)) pe_non)))))), ?_⟩
    refine ⟨(by show 0 ≤ sizeLine; decide), fun dl hdl => ?_⟩
    have l1 : (Txt.replace z (Str.ofString "(") (Str.ofString " ( ")).length ≤ 40003 := by
      have q := TK.replace_len z (Str.ofString "(") (Str.ofString " ( ")
      rw [show (Str.ofString " ( ").length = 3 from rfl] at q
      omega
    have l2 := parted_len z
    refine ⟨_, rfl, z, rfl, ?_, _, rfl, ?_, ⟨_, rfl⟩, _, rfl, rfl, ?_, fun wp hwp => ?_⟩
    · rw [show (Str.ofString " ( ").length = 3 from rfl]
      omega
    · rw [show (Str.ofString " ) ").length = 3 from rfl]
      omega
    · rw [sizeLine_eq]
      exact Nat.le_trans (Nat.add_le_add_right l2 2) (by omega)
    generalize hws : Txt.words (parted z) = ws
    have lo : looseOf z = loose ws := by
      unfold looseOf
      rw [hws]
    have wl : ws.length ≤ 30001 := by
      have q := words_le (parted z)
      rw [hws] at q
      omega
    have wsh : ∀ y ∈ ws, y.length ≤ 100000 := fun y hy => by
      have q := PyProof.Rows.word_short (x := parted z) (a := y) (by rw [hws]; exact hy)
      omega
    have s0 : Same H (upd H dl (.lst [])) := Same.new hdl
    have nwd : dl ≠ wp := fun e => by
      rw [← e, upd_same] at hwp
      cases hwp
    refine ⟨wp, rfl, ⟨_, SqL.of upd_same⟩, for_list (K := K) (a := wp) (xs := ws.map V.str) (fun i σ H2 => ∃ (rv : List V) (st : List (Option T)) (o2 o3 o4 : Option V), σ = [some (.str z), some (.ref dl), o2, o3, o4] ∧ H2 dl = some (.lst rv.reverse) ∧
        StAt H2 rv st ∧ mrun [] (ws.take i) = some st ∧ Same H H2 ∧ H2 wp = some (.lst (ws.map V.str)))
      ⟨[], [], none, none, none, rfl, ?_, trivial, rfl, s0.trans (Same.new hwp), upd_same⟩ (fun i σ H2 _ ⟨_, _, _, _, _, _, _, _, _, _, q⟩ => SqL.of q) ?_ ?_⟩
    · rw [upd_ne nwd, upd_same]
      rfl
    · rintro i y σ H2 hy ⟨rv, st, o2, o3, o4, rfl, a1, a2, a3, a4, a5⟩
      rw [List.getElem?_map] at hy
      cases ew : ws[i]? with
      | none =>
        rw [ew] at hy
        cases hy
      | some wd =>
        rw [ew] at hy
        cases hy
        have tk : ws.take (i + 1) = ws.take i ++ [wd] := by
          rw [List.take_add_one, ew]
          rfl
        have step : mrun [] (ws.take (i + 1)) = mstep st wd := by
          rw [tk, mrun_app, a3, Option.bind_some]
          simp only [mrun]
          cases mstep st wd <;> rfl
        have fail : mstep st wd = none → looseOf z = none := fun e => by
          rw [lo]
          have q : mrun [] ws = none := by
            have t2 : ws = ws.take (i + 1) ++ ws.drop (i + 1) := (List.take_append_drop _ _).symm
            rw [t2, mrun_app, step, e]
            rfl
          unfold loose
          rw [q]
          rfl
        have sl : st.length ≤ 30001 := by
          have q := mrun_len _ _ _ a3
          rw [List.length_take] at q
          simp only [List.length_nil] at q
          omega
        have rl : rv.length ≤ 30001 := by rw [a2.length]; exact sl
        have wm := wsh wd (List.mem_of_getElem? ew)
        have nwp : wp ≠ dl := nwd.symm
        have room : rv.reverse.length < sizeLine := by
          rw [List.length_reverse, sizeLine_eq]
          omega
        refine ⟨_, rfl, rfl, _, rfl, ?_⟩
        refine ite2 (fun c => ?_) (fun c => ?_)
        · -- an opening bracket
          have c1 : wd = Str.ofString "(" := by
            have := of_decide_eq_true c
            exact V.str.inj this
          refine ⟨_, rfl, Or.inl ⟨rfl, _, SqL.of a1⟩, dl, _, _, rfl, rfl, a1, room, ?_⟩
          refine ⟨.non :: rv, none :: st, _, _, _, rfl, ?_, ⟨rfl, a2.keep (keepL a1)⟩, ?_, Same.newer hdl a4, ?_⟩
          · rw [upd_same, List.reverse_cons]
          · (rw [step]; unfold mstep; rw [if_pos c1])
          · rw [upd_ne nwp]
            exact a5
        · have c1 : wd ≠ Str.ofString "(" := fun e => c (decide_eq_true (by rw [e]))
          refine ⟨_, rfl, rfl, _, rfl, ?_⟩
          refine ite2 (fun d => ?_) (fun d => ?_)
          · -- a closing bracket
            have d1 : wd = Str.ofString ")" := by
              have := of_decide_eq_true d
              exact V.str.inj this
            refine ⟨_, rfl, dl, rv, rfl, a1, fun H3 s3 => ⟨_, rfl, ?_⟩⟩
            have a1' := s3 _ _ a1
            have a2' : StAt H3 rv st := a2.keep fun p zs e => s3 _ _ e
            have a5' := s3 _ _ a5
            cases hm : mayR rv with
            | false =>
              refine iteT ?_
              refine k _ _ ?_ (a4.trans s3)
              rw [fail (by rw [d1] at c1 ⊢; exact may_no a2 hm)]
              rfl
            | true =>
              refine iteF ?_
              obtain ⟨vr, vl, rv', r, l, rest, rfl, rfl, hr2, hl2, hrest⟩ := may_yes a2' hm
              refine ⟨_, rfl, Or.inl ⟨rfl, _, SqL.of a1'⟩, dl, _, vr, rfl, rfl, a1', by simp, ?_⟩
              have e1 : (vr :: vl :: V.non :: rv').reverse.dropLast = (vl :: V.non :: rv').reverse := by
                rw [List.reverse_cons, List.dropLast_concat]
              rw [e1]
              refine ⟨_, rfl, Or.inl ⟨rfl, _, SqL.of upd_same⟩, dl, _, vl, rfl, rfl, upd_same, by simp, ?_⟩
              have e2 : (vl :: V.non :: rv').reverse.dropLast = (V.non :: rv').reverse := by
                rw [List.reverse_cons, List.dropLast_concat]
              rw [e2]
              refine ⟨_, rfl, _, rfl, (by show 2 ≤ sizeLine; decide), fun tp htp => ?_⟩
              have ntp : dl ≠ tp := fun e => by
                rw [← e, upd_same] at htp
                cases htp
              generalize g4 : upd (upd H3 dl (.lst (vl :: V.non :: rv').reverse)) dl (.lst (V.non :: rv').reverse) = H4 at *
              have at4 : H4 dl = some (.lst (V.non :: rv').reverse) := by rw [← g4, upd_same]
              have k34 : ∀ p zs, H3 p = some (.tup zs) → H4 p = some (.tup zs) := fun p zs e => by
                rw [← g4]
                exact keepL upd_same _ _ (keepL a1' _ _ e)
              have wp4 : H4 wp = some (.lst (ws.map V.str)) := by
                rw [← g4, upd_ne nwp, upd_ne nwp]
                exact a5'
              have s4 : Same H H4 := by
                rw [← g4]
                exact Same.newer hdl (Same.newer hdl (a4.trans s3))
              have nwt : wp ≠ tp := fun e => by
                rw [← e, wp4] at htp
                cases htp
              have at5 : (upd H4 tp (.tup [vl, vr])) dl = some (.lst (V.non :: rv').reverse) := by
                rw [upd_ne ntp]
                exact at4
              refine ⟨_, rfl, _, rfl, dl, _, _, rv'.length, rfl, rfl, at5, ?_, ?_⟩
              · unfold ixN
                rw [if_neg (by decide), if_pos (by simp only [List.length_reverse, List.length_cons]; omega)]
                simp only [List.length_reverse, List.length_cons]
                congr 1
                omega
              · have e3 : (V.non :: rv').reverse.set rv'.length (.ref tp) = (.ref tp :: rv').reverse := by
                  rw [List.reverse_cons, List.reverse_cons]
                  have : rv'.length = rv'.reverse.length := List.length_reverse.symm
                  rw [this, List.set_append_right _ _ (Nat.le_refl _), Nat.sub_self]
                  rfl
                rw [e3]
                have kk : ∀ p zs, H3 p = some (.tup zs) → (upd (upd H4 tp (.tup [vl, vr])) dl (.lst (V.ref tp :: rv').reverse)) p = some (.tup zs) := fun p zs e => keepL at5 _ _ (keepN htp _ _ (k34 _ _ e))
                refine ⟨.ref tp :: rv', some (.node l r) :: rest, _, _, _, rfl, upd_same, ⟨⟨tp, vl, vr, rfl, ?_, TreeAt.keep kk hl2, TreeAt.keep kk hr2⟩, hrest.keep kk⟩, ?_, Same.newer hdl (s4.trans (Same.new htp)), ?_⟩
                · rw [upd_ne ntp.symm, upd_same]
                · (rw [step]; unfold mstep; rw [if_neg c1, if_pos d1])
                · rw [upd_ne nwp, upd_ne nwt]
                  exact wp4
          · -- a name, or nothing of these
            have d1 : wd ≠ Str.ofString ")" := fun e => d (decide_eq_true (by rw [e]))
            refine ⟨_, rfl, .str wd, .str wd, rfl, .str wd, wm, fun H3 s3 => ⟨_, rfl, ?_⟩⟩
            have a1' := s3 _ _ a1
            show if goodB wd = true then _ else _
            refine ite2 (fun g => ?_) (fun g => ?_)
            · refine ⟨_, rfl, Or.inl ⟨rfl, _, SqL.of a1'⟩, _, rfl, dl, _, _, rfl, rfl, a1', room, ?_⟩
              refine ⟨.str wd :: rv, some (.leaf wd) :: st, _, _, _, rfl, ?_, ⟨rfl, a2.keep fun p zs e => keepL a1' _ _ (s3 _ _ e)⟩, ?_, Same.newer hdl (a4.trans s3), ?_⟩
              · rw [upd_same, List.reverse_cons]
              · (rw [step]; unfold mstep; rw [if_neg c1, if_neg d1, if_pos g])
              · rw [upd_ne nwp]
                exact s3 _ _ a5
            · refine k _ _ ?_ (a4.trans s3)
              rw [fail (by unfold mstep; rw [if_neg c1, if_neg d1, if_neg g])]
              rfl
    · rintro σ H2 ⟨rv, st, o2, o3, o4, rfl, a1, a2, a3, a4, a5⟩
      rw [List.length_map, List.take_length] at a3
      have lo2 : looseOf z = last1 (some st) := by
        rw [lo]
        unfold loose
        rw [a3]
      refine ⟨_, rfl, dl, _, rfl, Or.inl (SqL.of a1), rfl, _, rfl, ?_⟩
      refine ite2 (fun c => ?_) (fun c => ?_)
      · have c1 : rv.length = 1 := by
          have := V.int.inj (of_decide_eq_true c)
          rw [List.length_reverse] at this
          omega
        match rv, st, a2, c1 with
        | [v], [none], a2, _ =>
          refine ⟨_, rfl, dl, _, _, v, rfl, rfl, SqL.of a1, rfl, k v _ ?_ a4⟩
          rw [lo2]
          exact a2.1
        | [v], [some t], a2, _ =>
          refine ⟨_, rfl, dl, _, _, v, rfl, rfl, SqL.of a1, rfl, k v _ ?_ a4⟩
          rw [lo2]
          exact a2.1
      · have c1 : rv.length ≠ 1 := fun e => c (decide_eq_true (by rw [List.length_reverse, e]; rfl))
        refine k _ _ ?_ a4
        rw [lo2]
        have c2 : st.length ≠ 1 := by rw [← a2.length]; exact c1
        match st, c2 with
        | [], _ => rfl
        | [_], c2 => exact absurd rfl c2
        | some _ :: _ :: _, _ => rfl
        | none :: _ :: _, _ => rfl
end
end K86
namespace K86
open PySem PySem.Spec PyProof.Rows L2 Vr TL CwR
abbrev sText : Stmt := top 15
abbrev sLaw : Stmt := top 21
def rRepS : R2 := fun x y H Q => ∃ (z : Str) (k : Int), x = .str z ∧ y = .int k ∧ 1 ≤ k ∧ k ≤ 1000 ∧ z.length = 1 ∧ ∀ u : Str, u.cps.toList = (List.replicate k.toNat z.cps.toList).flatten → Q (.str u) H
theorem rep_fold : ∀ (n : Nat) (a b : Array Nat), ((List.replicate n a).foldl (fun x1 x2 => x1 ++ x2) b).toList = b.toList ++ (List.replicate n a.toList).flatten
  | 0, a, b => by simp
  | n + 1, a, b => by
    rw [List.replicate_succ, List.foldl_cons, rep_fold n a, Array.toList_append, List.replicate_succ, List.flatten_cons, List.append_assoc]
theorem op_repS {X : Cx} : OpR X (binaryOp .Mult) rRepS := by
  intro pins s σ H x y v u Q I rx ry h
  obtain ⟨z, k, rfl, rfl, k1, k2, zl, q⟩ := h
  obtain ⟨tz, rfl⟩ := (show ∃ t, v = Value.str z t from rx)
  obtain ⟨tk, rfl⟩ := (show ∃ t, u = Value.int k t from ry)
  have n0 : ¬ k < 1 := by omega
  have big : (decide (k < -(2 ^ 63 : Int)) || decide (k ≥ 2 ^ 63)) = false := by
    rw [decide_eq_false (by omega), decide_eq_false (by omega)]
    rfl
  refine PySem.P.mul_str big (fun _ _ => ?_) (fun _ _ => ?_) ?_
  · rw [zl]
    intro c
    have : (1 : Int) ≤ (2 ^ 63 - 1) / k := by
      rw [Int.le_ediv_iff_mul_le (by omega)]
      omega
    omega
  · rw [zl]
    unfold Builtin.Str.tooLong
    exact decide_eq_false (by rw [sizeLine_eq]; omega)
  · rw [if_neg n0]
    by_cases c : k = 1
    · subst c
      rw [if_pos (by rfl)]
      exact ⟨.str z, H, I, ⟨tz, rfl⟩, q z (by simp)⟩
    · have e : (k == 1 || z.length == 0) = false := by
        rw [zl]
        simp [c]
      rw [e, if_neg Bool.false_ne_true]
      refine ⟨?_, .str _, H, I.tok _, ⟨_, rfl⟩, q _ ?_⟩
      · show ((List.replicate k.toNat z.cps).foldl (fun x1 x2 => x1 ++ x2) #[]).size ≤ sizeLine
        rw [← Array.length_toList, rep_fold]
        have zl2 : z.cps.toList.length = 1 := by
          rw [← zl]
          simp [Str.length]
        rw [show (#[] : Array Nat).toList = [] from rfl, List.nil_append, List.length_flatten, List.map_replicate, List.sum_replicate_nat, zl2, sizeLine_eq]
        omega
      · rw [rep_fold]
        rfl
def spText (n : Nat) : Sp := fun vs H Q _ => ∃ (v : V) (t : T), vs = [v] ∧ TreeAt H v t ∧ t.depth < n ∧ (tx t).length ≤ 10000 ∧ ∀ (z : Str), z.cps.toList = tx t → Q (.str z) H
theorem cps_eq {z y : Str} (h : z.cps.toList = y.cps.toList) : z = y := tl_inj h
theorem cps_len (z : Str) : z.length = z.cps.toList.length := by simp [Str.length]
theorem good_ofB {x : Str} (h : goodB x = true) : Good x := by
  rw [goodB_eq] at h
  simp only [Bool.and_eq_true, decide_eq_true_eq] at h
  obtain ⟨⟨⟨h1, h2⟩, h3⟩, h4⟩ := h
  refine ⟨h1, h2, fun c hc => ?_, fun hm => ?_⟩
  · have q := (List.all_eq_true.mp h4) c hc
    unfold azB at q
    simpa using q
  · have q : (taken.any fun y => y == x) = true := List.any_eq_true.mpr ⟨x, hm, by simp⟩
    rw [q] at h3
    cases h3
theorem T.wgt_row (t : T) : t.wgt + 4 = 5 * t.row.length := by
  induction t with
  | leaf x => rfl
  | node l r h1 h2 =>
    simp only [T.wgt, T.row, List.length_append]
    omega
theorem tx_len : ∀ t : T, AllGood t → (tx t).length + 3 ≤ 9 * t.row.length
  | .leaf x, h => by
    have g := (h x (List.mem_singleton.mpr rfl)).six
    rw [cps_len] at g
    simp only [tx, T.row, List.length_singleton]
    omega
  | .node l r, h => by
    have h1 := tx_len l h.l
    have h2 := tx_len r h.r
    simp only [tx, T.row, List.length_cons, List.length_append, List.length_nil]
    omega
section
variable {P : Program} {w : World} {K : PySem.W.Frag} {mg : Str → Option Value} {base : Heap}
theorem scText : FnScope ["_law_tree"] ["_law_tree"] (defScope sText) := ⟨rfl, rfl, rfl, by decide +kernel, rfl, by decide +kernel, by decide +kernel⟩
theorem ok_text {f : Addr} {fd : FuncData} (F : Fun K "_law_text" "_law_text" sText f fd) (b0 : Binds K fd ["_law_tree"] []) (m0 : mg "_law_text" = some (.ref f)) (gIsi : mg "isinstance" = none) (gTuple : mg "tuple" = none) :
    ∀ n : Nat, FnOk P w K mg base CX0 (n + 1) f fd ["_law_tree"] (spText n)
  | 0 => ⟨fun vs H Q E h => (by obtain ⟨v, t, rfl, _⟩ := h; rfl), fun A outer s H args us vs Q E _ _ _ _ h => (by obtain ⟨v, t, _, _, h1, _⟩ := h; omega)⟩
  | n + 1 => by
    have GR := ok_text F b0 m0 gIsi gTuple n
    refine F.ok scText (fun vs H Q E h => ?_) (fun cdv A outer s H vs Q E hr h => ?_)
    · obtain ⟨v, t, rfl, _⟩ := h
      rfl
    · obtain ⟨v, t, rfl, ht, hd, hl, k⟩ := h
      refine ⟨_, pss_one (ps_ret (pe_ifExp (pt_val (pe_callB call_isi (by rfl) gIsi (by decide +kernel) (pa_cons (pv 0) (pa_cons (pe_bltn (v := .ty "tuple") (by rfl) gTuple (by decide +kernel) rfl) pa_nil))))
        (pe_op op_add_str (pe_op op_add_str (pe_op op_add_str (pe_op op_add_str pe_str (pe_call GR hr rfl m0 F.kp b0 .nil pass0 (pa_cons (pe_ix ix_tup (pv 0) pe_int (fun _ _ => rfl)) pa_nil))) pe_str)
          (pe_call GR hr rfl m0 F.kp b0 .nil pass0 (pa_cons (pe_ix ix_tup (pv 0) pe_int (fun _ _ => rfl)) pa_nil))) pe_str) (pv 0))), ?_⟩
      cases t with
      | leaf x =>
        cases (show v = V.str x from ht)
        refine ⟨_, rfl, .str x, .ty "tuple", _, _, _, rfl, ClsV.ty "tuple", .base (.str x), kit_tuple (.str x), _, rfl, ?_⟩
        refine iteF ?_
        exact ⟨_, rfl, k x rfl⟩
      | node l r =>
        obtain ⟨p, va, vc, rfl, hp, h1, h2⟩ := ht
        simp only [T.depth] at hd
        simp only [tx, List.length_cons, List.length_append, List.length_nil] at hl
        refine ⟨_, rfl, .ref p, .ty "tuple", _, _, _, rfl, ClsV.ty "tuple", .base (.tup hp), kit_tuple (.tuple []), _, rfl, ?_⟩
        refine iteT ?_
        have o1 : (Str.ofString "(").length = 1 := rfl
        have o2 : (Str.ofString " ").length = 1 := rfl
        have o3 : (Str.ofString ")").length = 1 := rfl
        refine ⟨_, rfl, p, _, _, _, rfl, rfl, SqT.of hp, rfl, va, l, rfl, h1, by omega, by omega, fun y ey => ?_⟩
        have yl := cps_len y
        rw [ey] at yl
        refine ⟨_, _, rfl, rfl, by rw [sizeLine_eq]; omega, _, _, rfl, rfl, by rw [PySem.strLen_append, sizeLine_eq]; omega, ?_⟩
        refine ⟨_, rfl, p, _, _, _, rfl, rfl, SqT.of hp, rfl, vc, r, rfl, h2, by omega, by omega, fun q eq => ?_⟩
        have ql := cps_len q
        rw [eq] at ql
        refine ⟨_, _, rfl, rfl, by rw [PySem.strLen_append, PySem.strLen_append, sizeLine_eq]; omega, _, _, rfl, rfl, by rw [PySem.strLen_append, PySem.strLen_append, PySem.strLen_append, sizeLine_eq]; omega, ?_⟩
        refine k _ ?_
        have e1 : (Str.ofString ")").cps.toList = [41] := by decide +kernel
        have e2 : (Str.ofString " ").cps.toList = [32] := by decide +kernel
        have e3 : (Str.ofString "(").cps.toList = [40] := by decide +kernel
        rw [app_cps, app_cps, app_cps, app_cps, ey, eq, e1, e2, e3]
        simp [tx]
end
end K86
namespace K86
open PySem PySem.Spec PyProof.Rows L2 Vr TL CwR
/-! ### what the loose reader finds -/
def stRows : List (Option T) → Nat
  | [] => 0
  | none :: r => stRows r
  | some t :: r => t.row.length + stRows r
theorem mstep_rows {st st' : List (Option T)} {w : Str} (e : mstep st w = some st') : stRows st' ≤ stRows st + 1 := by
  unfold mstep at e
  split at e
  · cases e
    simp only [stRows]
    omega
  · split at e
    · split at e
      · cases e
        simp only [stRows, T.row, List.length_append]
        omega
      · cases e
    · split at e
      · cases e
        simp only [stRows, T.row, List.length_singleton]
        omega
      · cases e
theorem mrun_rows : ∀ (ws : List Str) (st st' : List (Option T)), mrun st ws = some st' → stRows st' ≤ stRows st + ws.length
  | [], st, st', e => by
    cases e
    simp
  | w :: ws, st, st', e => by
    simp only [mrun] at e
    cases h : mstep st w with
    | none =>
      rw [h] at e
      cases e
    | some st1 =>
      rw [h] at e
      have h1 := mstep_rows h
      have h2 := mrun_rows ws st1 st' e
      simp only [List.length_cons]
      omega
theorem mrun_good : ∀ (ws : List Str) (st st' : List (Option T)), StGood st → mrun st ws = some st' → StGood st'
  | [], st, st', g, e => by
    cases e
    exact g
  | w :: ws, st, st', g, e => by
    simp only [mrun] at e
    cases h : mstep st w with
    | none =>
      rw [h] at e
      cases e
    | some st1 =>
      rw [h] at e
      exact mrun_good ws st1 st' (mstep_good g h) e
theorem last1_some {o : Option (List (Option T))} {t : T} (e : last1 o = some t) : o = some [some t] := by
  unfold last1 at e
  split at e
  · cases e
    rfl
  · cases e
theorem looseOf_good {z : Str} {t : T} (e : looseOf z = some t) : AllGood t ∧ t.row.length ≤ 3 * z.length + 1 := by
  unfold looseOf loose at e
  have h := last1_some e
  refine ⟨fun x hx => good_ofB (mrun_good _ [] _ (fun t ht => by cases ht) h t List.mem_cons_self x hx), ?_⟩
  have r := mrun_rows _ [] _ h
  have p := parted_len z
  have q : (Txt.words (Txt.replace (Txt.replace z (Str.ofString "(") (Str.ofString " ( ")) (Str.ofString ")") (Str.ofString " ) "))).length ≤ (parted z).length + 1 := words_le (parted z)
  simp only [stRows] at r
  omega
/-- the tree with this text -/
def readOf (z : Str) : Option T := match looseOf z with
  | some t => if tx t = z.cps.toList then some t else none
  | none => none
theorem readOf_some {z : Str} {t : T} : readOf z = some t ↔ AllGood t ∧ z.cps.toList = tx t := by
  constructor
  · intro h
    unfold readOf at h
    split at h
    · rename_i t' e
      split at h
      · rename_i e2
        cases h
        exact ⟨(looseOf_good e).1, e2.symm⟩
      · cases h
    · cases h
  · rintro ⟨g, e⟩
    unfold readOf
    rw [looseOf_tree g e]
    dsimp only
    rw [if_pos e.symm]
theorem readOf_none {z : Str} (h : ∀ t, AllGood t → z.cps.toList ≠ tx t) : readOf z = none := by
  cases e : readOf z with
  | none => rfl
  | some t =>
    have := readOf_some.mp e
    exact absurd this.2 (h t this.1)
/-- what is let out where a value is no text of a tree -/
def Refuse (C : Addr) (H : Hp) (E : XK) : Prop := ∀ (H1 : Hp) (d : Addr), Same H H1 → H1 d = none → E (.ref C) (some d) (upd H1 d (.xd [(Str.ofString "position", .int 0)]))
def spReadX (C : Addr) : Sp := fun vs H Q E => ∃ (v : V) (pd : PyData), vs = [v] ∧ DatAt H v pd ∧
  ((∃ z : Str, v = .str z ∧ pd = .str z ∧ z.length ≤ 10000 ∧ (∀ t, readOf z = some t → ∀ (v' : V) (H' : Hp), TreeAt H' v' t → Same H H' → Q v' H') ∧ (readOf z = none → Refuse C H E)) ∨
    ((∀ z, pd ≠ .str z) ∧ Refuse C H E))
section
variable {P : Program} {w : World} {K : PySem.W.Frag} {mg : Str → Option Value} {base : Heap}
theorem scRead : FnScope ["text", "tree"] ["text"] (defScope sRead) := ⟨rfl, rfl, rfl, by decide +kernel, rfl, by decide +kernel, by decide +kernel⟩
theorem ok_read {f fL fS C fI : Addr} {fd fdL fdS : FuncData} {qual lit : Str} (F : Fun K "read_tree" "read_tree" sRead f fd) (GL : FnOk P w K mg base CX0 2 fL fdL ["text"] spLoose) (bL : Binds K fdL ["text"] [])
    (mL : mg "_read_loosely" = some (.ref fL)) (kL : PySem.W.keepIn K (.ref fL) = true) (GS : FnOk P w K mg base CX0 1 fS fdS ["tree"] spShow) (bS : Binds K fdS ["tree"] [])
    (mS : mg "show_tree" = some (.ref fS)) (kS : PySem.W.keepIn K (.ref fS) = true) (gIsi : mg "isinstance" = none) (gStr : mg "str" = none)
    (N : VN.Txt P K mg C fI qual (Str.ofString "position") lit) (mN : mg "NoText" = some (.ref C)) :
    FnOk P w K mg base (L2.CX P w) 3 f fd ["text"] (spReadX C) := by
  refine F.okX scRead (fun vs H Q E h => ?_) (fun cdv A outer s H vs Q E hr h => ?_)
  · obtain ⟨v, pd, rfl, _⟩ := h
    rfl
  · obtain ⟨v, pd, rfl, hd, h⟩ := h
    have r1 : Room 1 _ := hr.mono (by decide)
    refine ⟨_, pss_cons (ps_set (i := 1) scRead.nd rfl (Or.inl rfl) (pe_ifExp (pt_val (pe_callB call_isi (by rfl) gIsi (by decide +kernel) (pa_cons (pv 0) (pa_cons (pe_bltn (v := .ty "str") (by rfl) gStr (by decide +kernel) rfl) pa_nil))))
        (pe_call GL hr rfl mL kL bL .nil pass0 (pa_cons (pv 0) pa_nil)) pe_non))
      (pss_cons (ps_if (PW.pt (pw_or (pt_cmpR op_isN (pv 1) pe_non (nomark _)) (pw_or1 (pt_cmpR op_ne (pe_call GS r1 rfl mS kS bS .nil pass0 (pa_cons (pv 1) pa_nil)) (pv 0) (nomark _)))))
        (pss_one (ps_raise rfl (takes_of rfl rfl rfl rfl) (pmk_n N mN hr (pa_cons pe_int pa_nil) rfl))) pss_nil)
      (pss_one (ps_ret (pv 1)))), ?_⟩
    rcases h with ⟨z, rfl, rfl, hz, k, no⟩ | ⟨ns, no⟩
    · refine ⟨_, rfl, .str z, .ty "str", _, _, _, rfl, ClsV.ty "str", .base (.str z), kit_str (.str z), _, rfl, ?_⟩
      refine iteT ?_
      refine ⟨_, rfl, z, rfl, hz, fun v H1 o1 s1 => ?_⟩
      cases hl : looseOf z with
      | none =>
        rw [hl] at o1
        have o2 : v = V.non := o1
        subst o2
        refine ⟨_, rfl, rfl, _, rfl, ?_⟩
        refine iteT ?_
        refine ⟨.int 0, rfl, fun d hd => no ?_ _ d s1 hd⟩
        unfold readOf
        rw [hl]
      | some t =>
        rw [hl] at o1
        have t1 : TreeAt H1 v t := o1
        obtain ⟨gt, rl⟩ := looseOf_good hl
        have wg := t.wgt_row
        have xl := tx_len t gt
        refine ⟨_, rfl, rfl, _, rfl, ?_⟩
        rw [decide_eq_false (TreeAt.ne t1)]
        refine iteF ?_
        refine ⟨_, rfl, v, t, rfl, t1, by omega, by omega, fun y H2 ey s2 => ⟨_, rfl, rfl, _, rfl, ?_⟩⟩
        by_cases e : y = z
        · subst e
          refine iteNS rfl ?_
          exact ⟨_, rfl, k t (readOf_some.mpr ⟨gt, ey⟩) v H2 (t1.same s2) (s1.trans s2)⟩
        · have e2 : (!decide (V.str y = V.str z)) = true := by
            rw [decide_eq_false (fun q => e (V.str.inj q))]
            rfl
          rw [e2]
          refine iteT ?_
          refine ⟨.int 0, rfl, fun d hd => no ?_ _ d (s1.trans s2) hd⟩
          unfold readOf
          rw [hl]
          dsimp only
          rw [if_neg fun q => e (cps_eq (by rw [ey, q]))]
    · refine ⟨_, rfl, v, .ty "str", _, _, _, rfl, ClsV.ty "str", hd.ty, kit_str pd, _, rfl, ?_⟩
      have e : isS pd = false := by
        cases pd with
        | str z => exact absurd rfl (ns z)
        | _ => rfl
      rw [e]
      refine iteF ?_
      refine ⟨_, rfl, rfl, _, rfl, ?_⟩
      refine iteT ?_
      exact ⟨.int 0, rfl, fun d hd => no _ d (Same.refl _) hd⟩
end
end K86
namespace K86
open PySem PySem.Spec PyProof.Rows L2 Vr TL CwR
/-! ### the text of a tree ahead of other signs -/
def NoLow : List Nat → Prop
  | [] => True
  | c :: _ => azB c = false
def Ends : T → List Nat → Prop
  | .leaf _, r => NoLow r
  | .node _ _, _ => True
theorem span_low : ∀ {x r : List Nat}, (∀ c ∈ x, azB c = true) → NoLow r → (x ++ r).takeWhile azB = x
  | [], [], _, _ => rfl
  | [], c :: r, _, h => by
    have h' : azB c = false := h
    simp [List.takeWhile, h']
  | c :: x, r, h, hr => by
    have hc := h c List.mem_cons_self
    simp only [List.cons_append, List.takeWhile, hc]
    rw [span_low (fun d hd => h d (List.mem_cons_of_mem _ hd)) hr]
theorem Good.az {x : Str} (g : Good x) : ∀ c ∈ x.cps.toList, azB c = true := fun c hc => by
  have := g.low c hc
  unfold azB
  simp [this.1, this.2]
theorem Good.ne {x : Str} (g : Good x) : ∃ c l, x.cps.toList = c :: l ∧ 97 ≤ c := by
  cases e : x.cps.toList with
  | nil =>
    have := g.one
    rw [cps_len, e] at this
    exact absurd this (by decide)
  | cons c l => exact ⟨c, l, rfl, (g.low c (by rw [e]; exact List.mem_cons_self)).1⟩
theorem AllGood.leaf {x : Str} (h : AllGood (.leaf x)) : Good x := h x (List.mem_singleton.mpr rfl)
theorem tx_uniq : ∀ (t t' : T) (r r' : List Nat), AllGood t → AllGood t' → Ends t r → Ends t' r' → tx t ++ r = tx t' ++ r' → t = t' ∧ r = r'
  | .leaf x, .leaf y, r, r', g, g', h, h', e => by
    have e1 : x.cps.toList ++ r = y.cps.toList ++ r' := e
    have a := span_low g.leaf.az (show NoLow r from h)
    have b := span_low g'.leaf.az (show NoLow r' from h')
    have e2 : x.cps.toList = y.cps.toList := by rw [← a, ← b, e1]
    have e3 : x = y := tl_inj e2
    subst e3
    exact ⟨rfl, List.append_cancel_left e1⟩
  | .leaf x, .node l s, r, r', g, g', h, h', e => by
    obtain ⟨c, z, ez, hc⟩ := g.leaf.ne
    have e1 : x.cps.toList ++ r = tx (.node l s) ++ r' := e
    rw [ez] at e1
    simp only [tx, List.cons_append, List.cons.injEq] at e1
    omega
  | .node l s, .leaf x, r, r', g, g', h, h', e => by
    obtain ⟨c, z, ez, hc⟩ := g'.leaf.ne
    have e1 : tx (.node l s) ++ r = x.cps.toList ++ r' := e
    rw [ez] at e1
    simp only [tx, List.cons_append, List.cons.injEq] at e1
    omega
  | .node l s, .node l' s', r, r', g, g', h, h', e => by
    simp only [tx, List.cons_append, List.append_assoc, List.cons.injEq, true_and, List.nil_append] at e
    have en : ∀ (q : T) (z : List Nat), Ends q (32 :: z) := fun q z => by
      cases q with
      | leaf _ => exact (by decide : azB 32 = false)
      | node _ _ => trivial
    have en2 : ∀ (q : T) (z : List Nat), Ends q (41 :: z) := fun q z => by
      cases q with
      | leaf _ => exact (by decide : azB 41 = false)
      | node _ _ => trivial
    obtain ⟨e1, e2⟩ := tx_uniq l l' _ _ g.l g'.l (en _ _) (en _ _) e
    simp only [List.cons.injEq, true_and] at e2
    obtain ⟨e3, e4⟩ := tx_uniq s s' _ _ g.r g'.r (en2 _ _) (en2 _ _) e2
    simp only [List.cons.injEq, true_and] at e4
    rw [e1, e3, e4]
    exact ⟨rfl, rfl⟩
/-! ### slices -/
theorem cut_nat (z : Str) {a b : Nat} (ha : a ≤ b) (hb : b ≤ z.length) : (cutS z (some (a : Int)) (some (b : Int))).cps.toList = (z.cps.toList.drop a).take (b - a) := by
  unfold cutS
  rw [HT.sIx_nat, HT.sIx_nat, Nat.min_eq_left (show a ≤ z.length by omega), Nat.min_eq_left hb]
theorem cut_one (z : Str) {k : Nat} (hk : k ≤ z.length) : (cutS z (some (k : Int)) (some ((k : Int) + 1))).cps.toList = (z.cps.toList.drop k).take 1 := by
  unfold cutS
  rw [show ((k : Int) + 1) = ((k + 1 : Nat) : Int) from rfl, HT.sIx_nat, HT.sIx_nat, Nat.min_eq_left hk]
  show (z.cps.toList.drop k).take _ = _
  by_cases h : k + 1 ≤ z.length
  · rw [Nat.min_eq_left h, show k + 1 - k = 1 by omega]
  · have e : z.cps.toList.drop k = [] := List.drop_eq_nil_of_le (by rw [← cps_len]; omega)
    rw [e]
    simp
theorem cut_sign (z : Str) {k c : Nat} {y : Str} (hk : k ≤ z.length) (hy : y.cps.toList = [c]) : (V.str (cutS z (some (k : Int)) (some ((k : Int) + 1))) = V.str y) ↔ ∃ r, z.cps.toList.drop k = c :: r := by
  have e := cut_one z hk
  constructor
  · intro h
    rw [V.str.inj h, hy] at e
    cases q : z.cps.toList.drop k with
    | nil =>
      rw [q] at e
      cases e
    | cons d r =>
      rw [q] at e
      simp only [List.take_succ_cons, List.take_zero, List.cons.injEq, and_true] at e
      rw [e]
      exact ⟨r, rfl⟩
  · rintro ⟨r, q⟩
    rw [q] at e
    exact congrArg V.str (cps_eq (by rw [e, hy]; rfl))
/-! ### the reader of the law's own -/
abbrev sLRead : Stmt := top 16
theorem drop_more {l a b : List Nat} {k : Nat} (h : l.drop k = a ++ b) : l.drop (k + a.length) = b := by
  rw [← List.drop_drop, h, List.drop_left]
theorem len_more {l a b : List Nat} {k : Nat} (h : l.drop k = a ++ b) (hk : k ≤ l.length) : k + a.length + b.length = l.length := by
  have e := congrArg List.length h
  rw [List.length_drop, List.length_append] at e
  omega
theorem ends_sign {c : Nat} (h : azB c = false) : ∀ (t : T) (r : List Nat), Ends t (c :: r)
  | .leaf _, _ => h
  | .node _ _, _ => trivial
theorem AllGood.node {l s : T} (h1 : AllGood l) (h2 : AllGood s) : AllGood (.node l s) := fun x hx => by
  rcases List.mem_append.mp hx with h | h
  · exact h1 x h
  · exact h2 x h
/-- a text that begins with a bracket -/
theorem node_of {r0 r : List Nat} {t : T} (g : AllGood t) (e : 40 :: r0 = tx t ++ r) : ∃ l s, t = .node l s ∧ AllGood l ∧ AllGood s ∧ r0 = tx l ++ (32 :: (tx s ++ (41 :: r))) := by
  cases t with
  | leaf x =>
    obtain ⟨c, z, ez, hc⟩ := g.leaf.ne
    have e1 : 40 :: r0 = x.cps.toList ++ r := e
    rw [ez] at e1
    simp only [List.cons_append, List.cons.injEq] at e1
    omega
  | node l s =>
    simp only [tx, List.cons_append, List.append_assoc, List.cons.injEq, true_and, List.nil_append] at e
    exact ⟨l, s, rfl, g.l, g.r, e⟩
theorem thenR {A G B : Prop} (h1 : (A → G) → B) (h2 : A → G) : B := h1 h2
theorem in_letters (c : Nat) : decide (c ∈ (Str.ofString "abcdefghijklmnopqrstuvwxyz").cps.toList) = azB c := by
  have e : (Str.ofString "abcdefghijklmnopqrstuvwxyz").cps.toList = (List.range 26).map (97 + ·) := by decide +kernel
  rw [e]
  unfold azB
  rw [Bool.eq_iff_iff, decide_eq_true_iff, Bool.and_eq_true, decide_eq_true_iff, decide_eq_true_iff]
  constructor
  · intro h
    obtain ⟨i, hi, rfl⟩ := List.mem_map.mp h
    have := List.mem_range.mp hi
    omega
  · rintro ⟨h1, h2⟩
    exact List.mem_map.mpr ⟨c - 97, List.mem_range.mpr (by omega), by omega⟩
def spLRead (n : Nat) : Sp := fun vs H Q _ => ∃ (z : Str) (k : Nat), vs = [.str z, .int (k : Int)] ∧ k ≤ z.length ∧ z.length < k + n ∧ z.length ≤ 1000 ∧
  (∀ t r, AllGood t → z.cps.toList.drop k = tx t ++ r → Ends t r → ∀ (p : Addr) (v : V) (H' : Hp), H' p = some (.tup [v, .int ((k + (tx t).length : Nat) : Int)]) → TreeAt H' v t → Same H H' → Q (.ref p) H') ∧
  ((∀ t r, AllGood t → Ends t r → z.cps.toList.drop k ≠ tx t ++ r) → ∀ (p : Addr) (H' : Hp), H' p = some (.tup [.non, .int 0]) → Same H H' → Q (.ref p) H')
section
variable {P : Program} {w : World} {K : PySem.W.Frag} {mg : Str → Option Value} {base : Heap}
abbrev nLRead : List Str := ["_law_text_here", "_law_at", "_law_end", "_law_is_good", "_law_one", "_law_other"]
theorem scLRead : FnScope nLRead ["_law_text_here", "_law_at"] (defScope sLRead) := ⟨rfl, rfl, rfl, by decide +kernel, rfl, by decide +kernel, by decide +kernel⟩
theorem ok_lread {f : Addr} {fd : FuncData} (F : Fun K "_law_read" "_law_read" sLRead f fd) (b0 : Binds K fd ["_law_text_here", "_law_at"] []) (m0 : mg "_law_read" = some (.ref f)) (gLen : mg "len" = none) :
    ∀ n : Nat, FnOk P w K mg base CX0 (n + 1) f fd ["_law_text_here", "_law_at"] (spLRead n)
  | 0 => ⟨fun vs H Q E h => (by obtain ⟨z, k, rfl, _⟩ := h; rfl), fun A outer s H args us vs Q E _ _ _ _ h => (by obtain ⟨z, k, _, h1, h2, _⟩ := h; omega)⟩
  | n + 1 => by
    have GR := ok_lread F b0 m0 gLen n
    refine F.ok scLRead (fun vs H Q E h => ?_) (fun cdv A outer s H vs Q E hr h => ?_)
    · obtain ⟨z, k, rfl, _⟩ := h
      rfl
    · obtain ⟨z, k, rfl, hk, hn, hz, yes, no⟩ := h
      refine ⟨_, pss_cons (ps_if (pt_cmpR op_ne (pe_slice sl_str (pv 0) (po_some (pv 1)) (po_some (pe_op op_add (pv 1) pe_int))) pe_str (nomark _))
          (pss_cons (ps_set (i := 2) scLRead.nd rfl (Or.inl rfl) (pv 1))
          (pss_cons (ps_while PassesOwn.never (PW.pt (pw_and (pt_cmpR op_lt (pv 2) (pe_callB call_len_str (by rfl) gLen PySem.boot_len (pa_cons (pv 0) pa_nil)) (nomark _)) (pw_and1 (pt_cmpR op_in_sign (pe_ix ix_str (pv 0) (pv 2) (fun _ _ => rfl)) pe_str (by rfl)))))
            (pss_one (ps_set (i := 2) scLRead.nd rfl (Or.inl rfl) (pe_op op_add (pv 2) pe_int))))
          (pss_cons (ps_set (i := 3) scLRead.nd rfl (Or.inl rfl) (pe_and (pe_chain op_le op_le pe_int (pe_op op_sub (pv 2) (pv 1)) pe_int)
              (pe_one (pe_cmpR op_notIn_seq (pe_slice sl_str (pv 0) (po_some (pv 1)) (po_some (pv 2))) (pe_lst (pa_cons pe_str (pa_cons pe_str (pa_cons pe_str (pa_cons pe_str pa_nil))))) (by rfl)))))
          (pss_one (ps_ret (pe_ifExp (pt_val (pv 3)) (pe_tup (pa_cons (pe_slice sl_str (pv 0) (po_some (pv 1)) (po_some (pv 2))) (pa_cons (pv 2) pa_nil))) (pe_tup (pa_cons pe_non (pa_cons pe_int pa_nil)))))))))
          pss_nil)
        (pss_cons (ps_asg (pe_call GR hr rfl m0 F.kp b0 .nil pass0 (pa_cons (pv 0) (pa_cons (pe_op op_add (pv 1) pe_int) pa_nil))) (pg_tup rfl (pgs_cons (pg_name (i := 4) scLRead.nd rfl (Or.inl rfl)) (pgs_cons (pg_name (i := 2) scLRead.nd rfl (Or.inl rfl)) pgs_nil))))
        (pss_cons (ps_if (PW.pt (pw_or (pt_cmpR op_isN (pv 4) pe_non (nomark _)) (pw_or1 (pt_cmpR op_ne (pe_slice sl_str (pv 0) (po_some (pv 2)) (po_some (pe_op op_add (pv 2) pe_int))) pe_str (nomark _)))))
          (pss_one (ps_ret (pe_tup (pa_cons pe_non (pa_cons pe_int pa_nil))))) pss_nil)
        (pss_cons (ps_asg (pe_call GR hr rfl m0 F.kp b0 .nil pass0 (pa_cons (pv 0) (pa_cons (pe_op op_add (pv 2) pe_int) pa_nil))) (pg_tup rfl (pgs_cons (pg_name (i := 5) scLRead.nd rfl (Or.inl rfl)) (pgs_cons (pg_name (i := 2) scLRead.nd rfl (Or.inl rfl)) pgs_nil))))
        (pss_cons (ps_if (PW.pt (pw_or (pt_cmpR op_isN (pv 5) pe_non (nomark _)) (pw_or1 (pt_cmpR op_ne (pe_slice sl_str (pv 0) (po_some (pv 2)) (po_some (pe_op op_add (pv 2) pe_int))) pe_str (nomark _)))))
          (pss_one (ps_ret (pe_tup (pa_cons pe_non (pa_cons pe_int pa_nil))))) pss_nil)
        (pss_one (ps_ret (pe_tup (pa_cons (pe_tup (pa_cons (pv 4) (pa_cons (pv 5) pa_nil))) (pa_cons (pe_op op_add (pv 2) pe_int) pa_nil))))))))), ?_⟩
      have zs : z.length ≤ sizeLine := by
        rw [sizeLine_eq]
        omega
      have c40 : (Str.ofString "(").cps.toList = [40] := by decide +kernel
      have c32 : (Str.ofString " ").cps.toList = [32] := by decide +kernel
      have c41 : (Str.ofString ")").cps.toList = [41] := by decide +kernel
      refine ⟨_, rfl, _, rfl, _, rfl, _, rfl, _, _, rfl, rfl, _, rfl, z, rfl, zs, rfl, _, rfl, ?_⟩
      refine ite2 (fun c => ?_) (fun c => ?_)
      · -- a name, or nothing
        have nb : ∀ r, z.cps.toList.drop k ≠ 40 :: r := fun r e => by
          have q := (cut_sign z hk c40).mpr ⟨r, e⟩
          rw [decide_eq_true q] at c
          cases c
        refine ⟨_, rfl, ?_⟩
        refine ⟨fun m σ H' => ∃ e : Nat, m = z.length - e ∧ σ = [some (.str z), some (.int (k : Int)), some (.int (e : Int)), none, none, none] ∧ H' = H ∧ k ≤ e ∧ e ≤ z.length ∧ ∀ c ∈ (z.cps.toList.drop k).take (e - k), azB c = true,
          ⟨_, k, rfl, rfl, rfl, Nat.le_refl _, hk, fun c hc => by simp at hc⟩, ?_⟩
        rintro m σ H' ⟨e, rfl, rfl, rfl, ke, el, al⟩
        refine thenR (A := NoLow (z.cps.toList.drop e)) (G := ?G) (fun key => ?_) (fun hno => ?_)
        rotate_left
        · refine ⟨_, rfl, _, rfl, z, rfl, zs, _, _, rfl, rfl, _, rfl, ?_⟩
          refine ite2 (fun c1 => ?_) (fun c1 => ?_)
          · have e1 : e < z.length := by
              have := of_decide_eq_true c1
              omega
            obtain ⟨ch, hch⟩ : ∃ ch, z.cps.toList[e]? = some ch := ⟨_, List.getElem?_eq_getElem (by rw [← cps_len]; exact e1)⟩
            refine ⟨_, rfl, _, rfl, z, (e : Int), ch, rfl, rfl, zs, atI_nat hch, ch, _, rfl, rfl, _, rfl, ?_⟩
            rw [in_letters]
            have dr : z.cps.toList.drop e = ch :: z.cps.toList.drop (e + 1) := (List.getElem?_eq_some_iff.mp hch).2 ▸ List.drop_eq_getElem_cons _
            refine ite2 (fun c2 => ?_) (fun c2 => ?_)
            · refine ⟨fun σ' H'' => ∃ e' : Nat, e < e' ∧ e' ≤ z.length ∧ σ' = [some (.str z), some (.int (k : Int)), some (.int (e' : Int)), none, none, none] ∧ H'' = H' ∧ ∀ c ∈ (z.cps.toList.drop k).take (e' - k), azB c = true,
                fun σ' H'' ⟨e', h1, h2, h3, h4, h5⟩ => ⟨z.length - e', by omega, e', rfl, h3, h4, by omega, h2, h5⟩, ?_⟩
              refine ⟨_, rfl, _, _, rfl, rfl, e + 1, by omega, by omega, rfl, rfl, fun c hc => ?_⟩
              rw [show e + 1 - k = (e - k) + 1 by omega, List.take_add_one] at hc
              rcases List.mem_append.mp hc with hc | hc
              · exact al c hc
              · rw [List.getElem?_drop, show k + (e - k) = e by omega, hch] at hc
                rw [List.mem_singleton.mp hc]
                exact c2
            · refine key ?_
              rw [dr]
              exact Bool.eq_false_iff.mpr c2
          · refine key ?_
            have e2 : z.cps.toList.drop e = [] := List.drop_eq_nil_of_le (by rw [← cps_len]; have h9 : ¬ ((e : Int) < (z.length : Int)) := fun q => c1 (decide_eq_true q); omega)
            rw [e2]
            trivial
        · generalize hw : cutS z (some (k : Int)) (some (e : Int)) = wd
          have wc : wd.cps.toList = (z.cps.toList.drop k).take (e - k) := by
            rw [← hw]
            exact cut_nat z ke el
          have hx : z.cps.toList.drop k = wd.cps.toList ++ z.cps.toList.drop e := by
            rw [wc]
            have q := (List.take_append_drop (e - k) (z.cps.toList.drop k)).symm
            rw [List.drop_drop, show k + (e - k) = e by omega] at q
            exact q
          have wl : wd.length = e - k := by
            rw [cps_len, wc, List.length_take, List.length_drop, ← cps_len]
            omega
          rw [← wc] at al
          have nope : ¬ Good wd → ∀ t r, AllGood t → Ends t r → z.cps.toList.drop k ≠ tx t ++ r := fun ng t r g en eq => by
            cases t with
            | node l s =>
              exact nb _ (by rw [eq]; rfl)
            | leaf y =>
              have a := span_low al hno
              have b := span_low g.leaf.az (show NoLow r from en)
              rw [← hx, eq] at a
              have : wd.cps.toList = y.cps.toList := a.symm.trans b
              rw [cps_eq this] at ng
              exact ng g.leaf
          refine ⟨_, rfl, _, rfl, _, _, rfl, rfl, _, _, rfl, rfl, _, rfl, ?_⟩
          refine ite2 (fun c1 => ?_) (fun c1 => ?_)
          · have c1 : 1 ≤ (e : Int) - (k : Int) := of_decide_eq_true c1
            refine ⟨_, _, rfl, rfl, _, rfl, ?_⟩
            refine ite2 (fun c2 => ?_) (fun c2 => ?_)
            · have c2 : (e : Int) - (k : Int) ≤ 6 := of_decide_eq_true c2
              refine ⟨_, rfl, _, rfl, _, rfl, _, rfl, _, rfl, z, rfl, zs, (by show 4 ≤ sizeLine; decide), fun q hq => ?_⟩
              rw [hw]
              refine ⟨q, taken.map V.str, rfl, Or.inl (SqL.of upd_same), rfl, rfl, ?_⟩
              refine ⟨_, rfl, _, rfl, ?_⟩
              show if (!inV (.str wd) (taken.map V.str)) = true then _ else _
              rw [inV_taken]
              refine ite2 (fun c3 => ?_) (fun c3 => ?_)
              · have g : Good wd := by
                  refine good_ofB ?_
                  rw [goodB_eq, decide_eq_true (show 1 ≤ wd.length by omega), decide_eq_true (show wd.length ≤ 6 by omega), Bool.and_eq_true]
                  exact ⟨c3, List.all_eq_true.mpr al⟩
                refine ⟨_, rfl, _, rfl, _, rfl, _, rfl, _, rfl, z, rfl, zs, _, rfl, (by show 2 ≤ sizeLine; decide), fun p hp => ?_⟩
                rw [hw]
                refine yes (.leaf wd) _ (fun y hy => by rw [List.mem_singleton.mp hy]; exact g) hx hno p (.str wd) _ ?_ rfl ((Same.new hq).trans (Same.new hp))
                rw [upd_same]
                have : k + (tx (.leaf wd)).length = e := by
                  show k + wd.cps.toList.length = e
                  rw [← cps_len]
                  omega
                rw [this]
              · have ng : ¬ Good wd := fun g => c3 (by
                  have := good_B g
                  rw [goodB_eq] at this
                  simp only [Bool.and_eq_true] at this
                  exact this.1.2)
                exact ⟨(by show 2 ≤ sizeLine; decide), fun p hp => no (nope ng) p _ upd_same ((Same.new hq).trans (Same.new hp))⟩
            · have ng : ¬ Good wd := fun g => c2 (decide_eq_true (by have := g.six; omega))
              refine ⟨_, rfl, _, rfl, ?_⟩
              refine iteF ?_
              exact ⟨(by show 2 ≤ sizeLine; decide), fun p hp => no (nope ng) p _ upd_same (Same.new hp)⟩
          · have ng : ¬ Good wd := fun g => c1 (decide_eq_true (by have := g.one; omega))
            refine ⟨_, rfl, _, rfl, _, rfl, ?_⟩
            refine iteF ?_
            exact ⟨(by show 2 ≤ sizeLine; decide), fun p hp => no (nope ng) p _ upd_same (Same.new hp)⟩
      · -- a bracket
        have c : V.str (cutS z (some (k : Int)) (some ((k : Int) + 1))) = V.str (Str.ofString "(") := by
          cases q : decide (V.str (cutS z (some (k : Int)) (some ((k : Int) + 1))) = V.str (Str.ofString "(")) with
          | true => exact of_decide_eq_true q
          | false =>
            rw [q] at c
            exact absurd rfl c
        obtain ⟨r0, h0⟩ := (cut_sign z hk c40).mp c
        have zl := cps_len z
        have k1 := len_more (a := [40]) h0 (by rw [← zl]; exact hk)
        rw [List.length_singleton] at k1
        have h1 : z.cps.toList.drop (k + 1) = r0 := drop_more (a := [40]) h0
        have none_ : ∀ {H' : Hp}, Same H H' → (∀ t r, AllGood t → Ends t r → z.cps.toList.drop k ≠ tx t ++ r) → tTup (tCons (tC .non) (tCons (tC (.int 0)) tNil)) ([] : L2.St) H' Q := fun s1 h =>
          ⟨(by show 2 ≤ sizeLine; decide), fun p hp => no h p _ upd_same (s1.trans (Same.new hp))⟩
        refine ⟨_, rfl, _, rfl, _, _, rfl, rfl, z, k + 1, rfl, by omega, by omega, hz, fun t1 r1 g1 e1 n1 p v1 H1 hp1 ta1 s1 => ?_, fun hn1 p H1 hp1 s1 => ?_⟩
        · have l1 := len_more e1 (by rw [← zl]; omega)
          have d1 := drop_more e1
          refine ⟨p, _, rfl, SqT.of hp1, rfl, _, _, rfl, _, _, rfl, rfl, ?_⟩
          refine ⟨_, rfl, rfl, _, rfl, ?_⟩
          rw [decide_eq_false (TreeAt.ne ta1)]
          refine iteF ?_
          refine ⟨_, rfl, _, rfl, _, rfl, _, rfl, _, _, rfl, rfl, _, rfl, z, rfl, zs, rfl, _, rfl, ?_⟩
          have ce := cut_sign z (k := k + 1 + (tx t1).length) (by omega) c32
          refine ite2 (fun c2 => ?_) (fun c2 => ?_)
          · refine none_ s1 fun t r g en eq => ?_
            rw [h0] at eq
            obtain ⟨l, s', rfl, gl, gs, e2⟩ := node_of g eq
            rw [← h1, e1] at e2
            obtain ⟨_, e3⟩ := tx_uniq _ _ _ _ g1 gl n1 (ends_sign (by decide) _ _) e2
            rw [decide_eq_true (ce.mpr ⟨_, d1.trans e3⟩)] at c2
            cases c2
          · have c2 : V.str (cutS z (some ((k + 1 + (tx t1).length : Nat) : Int)) (some (((k + 1 + (tx t1).length : Nat) : Int) + 1))) = V.str (Str.ofString " ") := by
              cases q : decide (V.str (cutS z (some ((k + 1 + (tx t1).length : Nat) : Int)) (some (((k + 1 + (tx t1).length : Nat) : Int) + 1))) = V.str (Str.ofString " ")) with
              | true => exact of_decide_eq_true q
              | false =>
                rw [q] at c2
                exact absurd rfl c2
            obtain ⟨r2, h2⟩ := ce.mp c2
            have er1 : r1 = 32 :: r2 := d1.symm.trans h2
            subst er1
            have h3 : z.cps.toList.drop (k + 1 + (tx t1).length + 1) = r2 := drop_more (a := [32]) h2
            have l2 : k + 1 + (tx t1).length + 1 ≤ z.length := by
              rw [List.length_cons] at l1
              omega
            -- no tree begins at the bracket but one whose left part is t1
            have left : ∀ t r, AllGood t → Ends t r → z.cps.toList.drop k = tx t ++ r → ∃ s', t = .node t1 s' ∧ AllGood s' ∧ r2 = tx s' ++ (41 :: r) := fun t r g en eq => by
              rw [h0] at eq
              obtain ⟨l, s', rfl, gl, gs, e2⟩ := node_of g eq
              rw [← h1, e1] at e2
              obtain ⟨e4, e3⟩ := tx_uniq _ _ _ _ g1 gl n1 (ends_sign (by decide) _ _) e2
              rw [List.cons.injEq] at e3
              subst e4
              exact ⟨s', rfl, gs, e3.2⟩
            refine ⟨_, rfl, _, rfl, _, _, rfl, rfl, z, k + 1 + (tx t1).length + 1, rfl, l2, by omega, hz, fun t2 r3 g2 e5 n2 p2 v2 H2 hp2 ta2 s2 => ?_, fun hn2 p2 H2 hp2 s2 => ?_⟩
            · have l3 := len_more e5 (by rw [← zl]; omega)
              have d2 := drop_more e5
              refine ⟨p2, _, rfl, SqT.of hp2, rfl, _, _, rfl, _, _, rfl, rfl, ?_⟩
              refine ⟨_, rfl, rfl, _, rfl, ?_⟩
              rw [decide_eq_false (TreeAt.ne ta2)]
              refine iteF ?_
              refine ⟨_, rfl, _, rfl, _, rfl, _, rfl, _, _, rfl, rfl, _, rfl, z, rfl, zs, rfl, _, rfl, ?_⟩
              have cf := cut_sign z (k := k + 1 + (tx t1).length + 1 + (tx t2).length) (by omega) c41
              refine ite2 (fun c3 => ?_) (fun c3 => ?_)
              · refine none_ (s1.trans s2) fun t r g en eq => ?_
                obtain ⟨s', rfl, gs, e6⟩ := left t r g en eq
                rw [← h3, e5] at e6
                obtain ⟨_, e7⟩ := tx_uniq _ _ _ _ g2 gs n2 (ends_sign (by decide) _ _) e6
                rw [decide_eq_true (cf.mpr ⟨_, d2.trans e7⟩)] at c3
                cases c3
              · have c3 : V.str (cutS z (some ((k + 1 + (tx t1).length + 1 + (tx t2).length : Nat) : Int)) (some (((k + 1 + (tx t1).length + 1 + (tx t2).length : Nat) : Int) + 1))) = V.str (Str.ofString ")") := by
                  cases q : decide (V.str (cutS z (some ((k + 1 + (tx t1).length + 1 + (tx t2).length : Nat) : Int)) (some (((k + 1 + (tx t1).length + 1 + (tx t2).length : Nat) : Int) + 1))) = V.str (Str.ofString ")")) with
                  | true => exact of_decide_eq_true q
                  | false =>
                    rw [q] at c3
                    exact absurd rfl c3
                obtain ⟨r4, h4⟩ := cf.mp c3
                have er3 : r3 = 41 :: r4 := d2.symm.trans h4
                subst er3
                refine ⟨_, rfl, _, rfl, (by show 2 ≤ sizeLine; decide), fun q1 hq1 => ⟨_, rfl, _, _, rfl, rfl, (by show 2 ≤ sizeLine; decide), fun q2 hq2 => ?_⟩⟩
                have sA : Same H2 (upd (upd H2 q1 (.tup [v1, v2])) q2 (.tup [.ref q1, .int (((k + 1 + (tx t1).length + 1 + (tx t2).length : Nat) : Int) + 1)])) := (Same.new hq1).trans (Same.new hq2)
                refine yes (.node t1 t2) r4 (AllGood.node g1 g2) ?_ trivial q2 (.ref q1) _ ?_ ⟨q1, v1, v2, rfl, ?_, ta1.same (s2.trans sA), ta2.same sA⟩ (s1.trans (s2.trans sA))
                · rw [h0, ← h1, e1, ← h3, e5]
                  simp [tx]
                · rw [upd_same]
                  have : k + (tx (.node t1 t2)).length = k + 1 + (tx t1).length + 1 + (tx t2).length + 1 := by
                    simp only [tx, List.length_cons, List.length_append, List.length_nil]
                    omega
                  rw [this]
                  rfl
                · rw [upd_ne (ne_of_none upd_same hq2), upd_same]
            · refine ⟨p2, _, rfl, SqT.of hp2, rfl, _, _, rfl, _, _, rfl, rfl, ?_⟩
              refine ⟨_, rfl, rfl, _, rfl, ?_⟩
              refine iteT ?_
              refine none_ (s1.trans s2) fun t r g en eq => ?_
              obtain ⟨s', rfl, gs, e6⟩ := left t r g en eq
              exact hn2 _ _ gs (ends_sign (by decide) _ _) (h3.trans e6)
        · refine ⟨p, _, rfl, SqT.of hp1, rfl, _, _, rfl, _, _, rfl, rfl, ?_⟩
          refine ⟨_, rfl, rfl, _, rfl, ?_⟩
          refine iteT ?_
          refine none_ s1 fun t r g en eq => ?_
          rw [h0] at eq
          obtain ⟨l, s', rfl, gl, gs, e2⟩ := node_of g eq
          exact hn1 _ _ gl (ends_sign (by decide) _ _) (h1.trans e2)
end
end K86
namespace K86
open PySem PySem.Spec PyProof.Rows L2 Vr TL CwR
abbrev sDue : Stmt := top 17
def spDue (n : Nat) : Sp := fun vs H Q _ => ∃ z : Str, vs = [.str z] ∧ z.length < n ∧ z.length ≤ 1000 ∧ (∀ t, readOf z = some t → ∀ (v : V) (H' : Hp), TreeAt H' v t → Same H H' → Q v H') ∧ (readOf z = none → ∀ H', Same H H' → Q .non H')
section
variable {P : Program} {w : World} {K : PySem.W.Frag} {mg : Str → Option Value} {base : Heap}
theorem scDue : FnScope ["_law_text_here", "_law_tree", "_law_end"] ["_law_text_here"] (defScope sDue) := ⟨rfl, rfl, rfl, by decide +kernel, rfl, by decide +kernel, by decide +kernel⟩
theorem ok_due {f fR : Addr} {fd fdR : FuncData} {n : Nat} (F : Fun K "_law_due" "_law_due" sDue f fd) (GR : FnOk P w K mg base CX0 (n + 1) fR fdR ["_law_text_here", "_law_at"] (spLRead n)) (bR : Binds K fdR ["_law_text_here", "_law_at"] [])
    (mR : mg "_law_read" = some (.ref fR)) (kR : PySem.W.keepIn K (.ref fR) = true) (gLen : mg "len" = none) :
    FnOk P w K mg base CX0 (n + 2) f fd ["_law_text_here"] (spDue n) := by
  refine F.ok scDue (fun vs H Q E h => ?_) (fun cdv A outer s H vs Q E hr h => ?_)
  · obtain ⟨z, rfl, _⟩ := h
    rfl
  · obtain ⟨z, rfl, zn, zk, yes, no⟩ := h
    refine ⟨_, pss_cons (ps_asg (pe_call GR hr rfl mR kR bR .nil pass0 (pa_cons (pv 0) (pa_cons pe_int pa_nil))) (pg_tup rfl (pgs_cons (pg_name (i := 1) scDue.nd rfl (Or.inl rfl)) (pgs_cons (pg_name (i := 2) scDue.nd rfl (Or.inl rfl)) pgs_nil))))
      (pss_one (ps_ret (pe_ifExp (PW.pt (pw_and (pt_cmpR op_notN (pv 1) pe_non (nomark _)) (pw_and1 (pt_cmpR op_eq (pv 2) (pe_callB call_len_str (by rfl) gLen PySem.boot_len (pa_cons (pv 0) pa_nil)) (nomark _))))) (pv 1) pe_non))), ?_⟩
    have zs : z.length ≤ sizeLine := by
      rw [sizeLine_eq]
      omega
    have zl := cps_len z
    refine ⟨_, rfl, z, 0, rfl, Nat.zero_le _, by omega, zk, fun t r g e en p v H1 hp ta s1 => ?_, fun hno p H1 hp s1 => ?_⟩
    · have l1 := len_more e (Nat.zero_le _)
      refine ⟨p, _, rfl, SqT.of hp, rfl, _, _, rfl, _, _, rfl, rfl, ?_⟩
      refine ⟨_, rfl, rfl, _, rfl, ?_⟩
      rw [decide_eq_false (TreeAt.ne ta)]
      refine iteT ?_
      refine ⟨_, rfl, _, rfl, z, rfl, zs, rfl, _, rfl, ?_⟩
      refine ite2 (fun c => ?_) (fun c => ?_)
      · have c : ((0 + (tx t).length : Nat) : Int) = (z.length : Int) := V.int.inj (of_decide_eq_true c)
        have er : r = [] := List.length_eq_zero_iff.mp (by omega)
        subst er
        refine ⟨_, rfl, yes t (readOf_some.mpr ⟨g, ?_⟩) v H1 ta s1⟩
        rw [List.drop_zero, List.append_nil] at e
        exact e
      · refine no (readOf_none fun t' g' e' => ?_) H1 s1
        rw [List.drop_zero, e', ← List.append_nil (tx t')] at e
        have en' : Ends t' [] := by
          cases t' with
          | leaf _ => trivial
          | node _ _ => trivial
        obtain ⟨e1, e2⟩ := tx_uniq _ _ _ _ g' g en' en e
        subst e1 e2
        refine c (decide_eq_true (congrArg V.int ?_))
        rw [zl, e', Nat.zero_add]
    · refine ⟨p, _, rfl, SqT.of hp, rfl, _, _, rfl, _, _, rfl, rfl, ?_⟩
      refine ⟨_, rfl, rfl, _, rfl, ?_⟩
      refine iteF ?_
      refine no (readOf_none fun t' g' e' => ?_) H1 s1
      refine hno t' [] g' ?_ (by rw [List.drop_zero, e', List.append_nil])
      cases t' with
      | leaf _ => trivial
      | node _ _ => trivial
end
end K86
namespace K86
open PySem PySem.Spec PyProof.Rows L2 Vr TL CwR
abbrev sTold : Stmt := top 19
def spTold : Sp := fun vs H Q _ => ∃ z : Str, vs = [.str z] ∧ z.length ≤ 10000 ∧ (∀ t, readOf z = some t → ∀ (p : Addr) (v' : V) (H' : Hp), H' p = some (.lst [v']) → TreeAt H' v' t → Same H H' → Q (.ref p) H') ∧
  (readOf z = none → ∀ (p : Addr) (H' : Hp), H' p = some (.lst []) → Same H H' → Q (.ref p) H')
section
variable {P : Program} {w : World} {K : PySem.W.Frag} {mg : Str → Option Value} {base : Heap}
theorem scTold : FnScope ["_law_text_here", "e"] ["_law_text_here"] (defScope sTold) := ⟨rfl, rfl, rfl, by decide +kernel, rfl, by decide +kernel, by decide +kernel⟩
theorem ok_told {f fR C fI : Addr} {fd fdR : FuncData} {qual lit : Str} (F : Fun K "_law_told" "_law_told" sTold f fd) (GR : FnOk P w K mg base (L2.CX P w) 3 fR fdR ["text"] (spReadX C)) (bR : Binds K fdR ["text"] [])
    (mR : mg "read_tree" = some (.ref fR)) (kR : PySem.W.keepIn K (.ref fR) = true) (N : VN.Txt P K mg C fI qual (Str.ofString "position") lit) (mN : mg "NoText" = some (.ref C)) (fc : XfC K C) (ex : PySem.W.exmOne K (.ref C) (.ref C) = some true)
    (gRepr : mg "repr" = none) :
    FnOk P w K mg base CX0 4 f fd ["_law_text_here"] spTold := by
  refine F.ok scTold (fun vs H Q E h => ?_) (fun cdv A outer s H vs Q E hr h => ?_)
  · obtain ⟨z, rfl, _⟩ := h
    rfl
  · obtain ⟨z, rfl, hz, k, no⟩ := h
    refine ⟨_, pss_one (ps_try_as (i := 1) (tb := fun W => tRet (tLst (tCons (tCallS (spReadX C) (WE W) (tCons (tVar 0) tNil)) tNil)))
        (ts := fun a cls d => _) (Wout := fun _ _ _ _ => False) rfl rfl scTold.nd rfl rfl ⟨rfl, by decide, Or.inl mN⟩ takes0
      (fun W pn xe tk _ => pss_one (ps_ret (pe_lst (pa_cons (pe_callS GR hr rfl mR kR bR (fun σ => passAt tk σ) (pa_cons (pv 0) pa_nil)) pa_nil))))
      (fun a oe cls d pn hz hf => pss_one (ps_ret (pe_ifExp (pt_cmpR op_eq (pe_callB SkE.call_repr_int (by rfl) gRepr (by decide +kernel) (pa_cons (pe_xf fc N.noN hz hf (pv 1)) pa_nil)) pe_str (nomark _)) (pe_lst pa_nil) (pe_lst (pa_cons pe_non pa_nil)))))), ?_⟩
    refine ⟨_, rfl, .str z, .str z, rfl, .str z, Or.inl ⟨z, rfl, rfl, hz, fun t et v' H1 t1 s1 => ⟨(by show 1 ≤ sizeLine; decide), fun p hp => k t et p v' _ upd_same (t1.new hp) (s1.trans (Same.new hp))⟩, fun en => ?_⟩⟩
    intro H1 d s1 hd1
    refine ⟨true, ex, fun _ a ha => ?_, fun z => by cases z⟩
    have pd1 : (upd H1 d (.xd [(Str.ofString "position", .int 0)])) d = some (.xd [(Str.ofString "position", .int 0)]) := upd_same
    have s2 : Same H (upd H1 d (.xd [(Str.ofString "position", .int 0)])) := s1.trans (Same.new hd1)
    refine ⟨_, rfl, rfl, rfl, d, _, .int 0, rfl, pd1, rfl, 0, rfl, by decide, rfl, _, rfl, ?_⟩
    have e0 : (decide (V.str (Str.ofString (toString (0 : Int))) = V.str (Str.ofString "0"))) = true := by decide +kernel
    rw [e0]
    refine iteT ?_
    exact ⟨(by show 0 ≤ sizeLine; decide), fun p hp => no en p _ upd_same (s2.trans (Same.new hp))⟩
end
/-! ### the texts near a text -/
theorem pst_name {X : Cx} {i : Nat} {x : Str} {e : Expr} {te : TE} {pos pos' : Pos} (hN : X.N.Nodup) (hi : X.N[i]? = some x) (hl : X.env.scope.names.lookup x = some .local) (he : PET X e te) (hs : swapsWith e (some (.Name x pos')) pos.line X.env = pure false := by rfl) :
    PST X (.Assign [.Name x pos'] e pos) (tAsg te (gName i)) := by
  intro pins s σ H D h0 I h
  exact wpAny_Assign_Name (thn (he pins s σ H _ h0 I h) fun v s1 ⟨y, H1, I1, r1, q1⟩ => store_ok I1 hN hi (.inl hl) r1 (fun s2 I2 => ⟨_, H1, I2, q1⟩) (.inr hl)) hs
abbrev sNear : Stmt := top 18
def spNear : Sp := fun vs H Q _ => ∃ z : Str, vs = [.str z] ∧ z.length ≤ 40 ∧ ∀ (p : Addr) (ys : List Str) (H' : Hp), H' p = some (.lst (ys.map V.str)) → (∀ y ∈ ys, y.length ≤ 4 * z.length + 10) → Same H H' → Q (.ref p) H'
section
variable {P : Program} {w : World} {K : PySem.W.Frag} {mg : Str → Option Value} {base : Heap}
abbrev nNear : List Str := ["_law_text_here", "_law_found", "_law_at", "_law_head", "_law_rest", "_law_sign"]
theorem scNear : FnScope nNear ["_law_text_here"] (defScope sNear) := ⟨rfl, rfl, rfl, by decide +kernel, rfl, by decide +kernel, by decide +kernel⟩
theorem ok_near {f : Addr} {fd : FuncData} (F : Fun K "_law_near" "_law_near" sNear f fd) (gLen : mg "len" = none) (gRange : mg "range" = none) : FnOk P w K mg base CX0 1 f fd ["_law_text_here"] spNear := by
  obtain ⟨oc, od, kV, doc, pm, an, cdv, ct, osl, rfl, lk, hcd⟩ := F.ex
  refine fn_ofT lk hcd scNear (by decide +kernel) (by decide) (fun vs H Q E h => ?_) (fun A outer s H vs Q E hr h => ?_)
  · obtain ⟨z, rfl, _⟩ := h
    rfl
  · obtain ⟨z, rfl, hz, k⟩ := h
    refine ⟨_, psst_nox (psst_cons (pst_name (i := 1) scNear.nd rfl rfl (pet_lst (pat_cons (PET.of (pe_op op_add_str pe_str (pv 0))) (pat_cons (PET.of (pe_op op_add_str (pv 0) pe_str)) (pat_cons (pet_replC (pv 0))
        (pat_cons (PET.of (pe_op op_add_str (pv 0) (pv 0))) (pat_cons (PET.of (pe_op op_add_str (pe_op op_add_str pe_str (pv 0)) pe_str)) (pat_cons (PET.of (pe_op op_add_str (pv 0) pe_str)) (pat_cons (PET.of (pv 0)) pat_nil)))))))))
      (PSsT.of (pss_cons (ps_for PassesOwn.never rfl (pi_range1 (by rfl) gRange (pa_cons (pe_op op_add (pe_callB call_len_str (by rfl) gLen PySem.boot_len (pa_cons (pv 0) pa_nil)) pe_int) pa_nil)) (pg_name (i := 2) scNear.nd rfl (Or.inl rfl))
        (pss_cons (ps_expr (pe_bm PySem.F.plainAttrs_list PySem.F.slot_list_append PySem.F.type_list_append mt_append (pv 1) (pa_cons (pe_op op_add_str (pe_slice sl_str (pv 0) po_none (po_some (pv 2))) (pe_slice sl_str (pv 0) (po_some (pe_op op_add (pv 2) pe_int)) po_none)) pa_nil)))
        (pss_cons (ps_par (i := 3) (j := 4) (by rfl) scNear.nd rfl rfl (by decide) rfl rfl (pa_cons (pe_slice sl_str (pv 0) po_none (po_some (pv 2))) (pa_cons (pe_slice sl_str (pv 0) (po_some (pv 2)) po_none) pa_nil)) (by rfl))
        (pss_cons (ps_expr (pe_bm PySem.F.plainAttrs_list PySem.F.slot_list_append PySem.F.type_list_append mt_append (pv 1) (pa_cons (pe_op op_add_str (pe_op op_add_str (pe_op op_add_str (pv 3) (pe_slice sl_str (pv 4) (po_some pe_int) (po_some pe_int))) (pe_slice sl_str (pv 4) po_none (po_some pe_int))) (pe_slice sl_str (pv 4) (po_some pe_int) po_none)) pa_nil)))
        (pss_one (ps_for PassesOwn.never rfl (pi_str pe_str) (pg_name (i := 5) scNear.nd rfl (Or.inl rfl))
          (pss_cons (ps_expr (pe_bm PySem.F.plainAttrs_list PySem.F.slot_list_append PySem.F.type_list_append mt_append (pv 1) (pa_cons (pe_op op_add_str (pe_op op_add_str (pe_slice sl_str (pv 0) po_none (po_some (pv 2))) (pv 5)) (pe_slice sl_str (pv 0) (po_some (pv 2)) po_none)) pa_nil)))
          (pss_one (ps_expr (pe_bm PySem.F.plainAttrs_list PySem.F.slot_list_append PySem.F.type_list_append mt_append (pv 1) (pa_cons (pe_op op_add_str (pe_op op_add_str (pe_slice sl_str (pv 0) po_none (po_some (pv 2))) (pv 5)) (pe_slice sl_str (pv 0) (po_some (pe_op op_add (pv 2) pe_int)) po_none)) pa_nil)))))))))))
      (pss_one (ps_ret (pv 1)))))), ?_⟩
    have zs : z.length ≤ sizeLine := by
      rw [sizeLine_eq]
      omega
    have l1 : (Str.ofString " ").length = 1 := rfl
    have l2 : (Str.ofString "  ").length = 2 := rfl
    have l3 : (Str.ofString "(").length = 1 := rfl
    have l4 : (Str.ofString ")").length = 1 := rfl
    have l5 : (Str.ofString "\n").length = 1 := rfl
    have lr := TK.replace_len z (Str.ofString " ") (Str.ofString "  ")
    rw [l2] at lr
    have sm : ∀ n : Nat, n ≤ 10000 → n ≤ sizeLine := fun n h => by
      rw [sizeLine_eq]
      omega
    refine ⟨_, rfl, _, _, rfl, rfl, sm _ (by omega), _, rfl, _, _, rfl, rfl, sm _ (by omega), _, rfl, z, rfl, by rw [l2]; omega, _, rfl, _, rfl, _, _, rfl, rfl, sm _ (by omega), _, rfl, _, _, rfl, rfl, sm _ (by omega), _, _, rfl, rfl, sm _ (by rw [PySem.strLen_append]; omega),
      _, rfl, _, _, rfl, rfl, sm _ (by omega), _, rfl, (by show 7 ≤ sizeLine; decide), fun p hp => ?_⟩
    refine ⟨_, rfl, _, rfl, zs, _, _, rfl, rfl, _, rfl, ?_, ?_, ?_⟩
    · show -(2 ^ 62 : Int) ≤ (z.length : Int) + 1
      omega
    · show (z.length : Int) + 1 < 2 ^ 62
      omega
    have sub : ∀ {ys : List Str} {y : Str}, (∀ x ∈ ys, x.length ≤ 4 * z.length + 10) → y.length ≤ 4 * z.length + 10 → ∀ x ∈ ys ++ [y], x.length ≤ 4 * z.length + 10 := fun h1 h2 x hx => by
      rcases List.mem_append.mp hx with h | h
      · exact h1 x h
      · rw [List.mem_singleton.mp h]
        exact h2
    have snoc : ∀ (ys : List Str) (y : Str), ys.map V.str ++ [V.str y] = (ys ++ [y]).map V.str := fun ys y => by rw [List.map_append]; rfl
    refine for_range (lo := 0) (fun i σ H1 => ∃ (ys : List Str) (o2 o3 o4 o5 : Option V), σ = [some (.str z), some (.ref p), o2, o3, o4, o5] ∧ H1 p = some (.lst (ys.map V.str)) ∧ (∀ y ∈ ys, y.length ≤ 4 * z.length + 10) ∧ ys.length ≤ 7 + 10 * i ∧ Same H H1)
      ⟨[Str.ofString " " ++ z, z ++ Str.ofString " ", Txt.replace z (Str.ofString " ") (Str.ofString "  "), z ++ z, Str.ofString "(" ++ z ++ Str.ofString ")", z ++ Str.ofString "\n", z], none, none, none, none, rfl, upd_same, ?_, by simp, Same.new hp⟩ ?_ ?_
    · intro y hy
      rcases List.mem_cons.mp hy with rfl | hy
      · rw [PySem.strLen_append]
        omega
      rcases List.mem_cons.mp hy with rfl | hy
      · rw [PySem.strLen_append]
        omega
      rcases List.mem_cons.mp hy with rfl | hy
      · omega
      rcases List.mem_cons.mp hy with rfl | hy
      · rw [PySem.strLen_append]
        omega
      rcases List.mem_cons.mp hy with rfl | hy
      · rw [PySem.strLen_append, PySem.strLen_append]
        omega
      rcases List.mem_cons.mp hy with rfl | hy
      · rw [PySem.strLen_append]
        omega
      rw [List.mem_singleton.mp hy]
      omega
    · rintro i σ H1 hi ⟨ys, o2, o3, o4, o5, rfl, a1, a2, a3, a4⟩
      have i2 : i ≤ 40 := by
        have q : i < ((z.length : Int) + 1).toNat := hi
        omega
      have room : ∀ n : Nat, n ≤ 2000 → n < sizeLine := fun n h => by
        rw [sizeLine_eq]
        omega
      have c1 := cutS_length z none (some (0 + (i : Int)))
      have c2 := cutS_length z (some (0 + (i : Int) + 1)) none
      have c3 := cutS_length z (some (0 + (i : Int))) none
      refine ⟨_, rfl, Or.inl ⟨rfl, _, SqL.of a1⟩, _, rfl, _, rfl, _, rfl, z, rfl, zs, _, rfl, _, rfl, _, _, rfl, rfl, _, rfl, z, rfl, zs, _, _, rfl, rfl, sm _ (by omega), p, _, _, rfl, rfl, a1, room _ (by rw [List.length_map]; omega), ?_⟩
      rw [snoc]
      refine ⟨_, rfl, _, rfl, _, rfl, z, rfl, zs, _, rfl, _, rfl, _, rfl, z, rfl, zs, _, _, rfl, ?_⟩
      have a1' := upd_same (H := H1) (a := p) (o := .lst ((ys ++ [cutS z none (some (0 + (i : Int))) ++ cutS z (some (0 + (i : Int) + 1)) none]).map V.str))
      have s1 : Same H (upd H1 p (.lst ((ys ++ [cutS z none (some (0 + (i : Int))) ++ cutS z (some (0 + (i : Int) + 1)) none]).map V.str))) := Same.newer hp a4
      have a2' := sub a2 (y := cutS z none (some (0 + (i : Int))) ++ cutS z (some (0 + (i : Int) + 1)) none) (by rw [PySem.strLen_append]; omega)
      have a3' : (ys ++ [cutS z none (some (0 + (i : Int))) ++ cutS z (some (0 + (i : Int) + 1)) none]).length ≤ 8 + 10 * i := by
        rw [List.length_append, List.length_singleton]
        omega
      generalize (ys ++ [cutS z none (some (0 + (i : Int))) ++ cutS z (some (0 + (i : Int) + 1)) none]) = ys at a1' a2' a3' s1 ⊢
      generalize upd H1 p (.lst (ys.map V.str)) = H2 at a1' s1 ⊢
      have d1 := cutS_length (cutS z (some (0 + (i : Int))) none) (some 1) (some 2)
      have d2 := cutS_length (cutS z (some (0 + (i : Int))) none) none (some 1)
      have d3 := cutS_length (cutS z (some (0 + (i : Int))) none) (some 2) none
      have rz : (cutS z (some (0 + (i : Int))) none).length ≤ sizeLine := sm _ (by omega)
      refine ⟨_, rfl, Or.inl ⟨rfl, _, SqL.of a1'⟩, _, rfl, _, rfl, _, rfl, _, rfl, _, rfl, rz, _, _, rfl, rfl, sm _ (by omega), _, rfl, _, rfl, _, rfl, rz, _, _, rfl, rfl, sm _ (by rw [PySem.strLen_append]; omega), _, rfl, _, rfl, _, rfl, rz, _, _, rfl, rfl, sm _ (by rw [PySem.strLen_append, PySem.strLen_append]; omega),
        p, _, _, rfl, rfl, a1', room _ (by rw [List.length_map]; omega), ?_⟩
      rw [snoc]
      refine ⟨_, rfl, for_it walk_str (fun j σ H3 => ∃ (zs : List Str) (o3 o4 o5 : Option V), σ = [some (.str z), some (.ref p), some (.int (0 + (i : Int))), o3, o4, o5] ∧ H3 p = some (.lst (zs.map V.str)) ∧ (∀ y ∈ zs, y.length ≤ 4 * z.length + 10) ∧ zs.length ≤ 9 + 10 * i + 2 * j ∧ Same H H3)
        ⟨_, _, _, _, rfl, upd_same, sub a2' (by rw [PySem.strLen_append, PySem.strLen_append, PySem.strLen_append]; omega), by rw [List.length_append, List.length_singleton]; omega, Same.newer hp s1⟩ (fun _ _ _ _ _ => trivial) ?_ ?_⟩
      · rintro j x σ H3 H4 hj ⟨zs', q3, q4, q5, rfl, b1, b2, b3, b4⟩ ⟨rfl, ch, hch, rfl⟩
        have j4 : j < 4 := hj
        have one : (⟨#[ch]⟩ : Str).length = 1 := rfl
        refine ⟨_, rfl, Or.inl ⟨rfl, _, SqL.of b1⟩, _, rfl, _, rfl, _, rfl, z, rfl, zs, _, rfl, _, _, rfl, rfl, sm _ (by omega), _, rfl, _, rfl, _, rfl, z, rfl, zs, _, _, rfl, rfl, sm _ (by rw [PySem.strLen_append]; omega), p, _, _, rfl, rfl, b1, room _ (by rw [List.length_map]; omega), ?_⟩
        rw [snoc]
        have b1' := upd_same (H := H4) (a := p) (o := .lst ((zs' ++ [cutS z none (some (0 + (i : Int))) ++ ⟨#[ch]⟩ ++ cutS z (some (0 + (i : Int))) none]).map V.str))
        refine ⟨_, rfl, Or.inl ⟨rfl, _, SqL.of b1'⟩, _, rfl, _, rfl, _, rfl, z, rfl, zs, _, rfl, _, _, rfl, rfl, sm _ (by omega), _, rfl, _, rfl, _, _, rfl, rfl, _, rfl, z, rfl, zs, _, _, rfl, rfl, sm _ (by rw [PySem.strLen_append]; omega), p, _, _, rfl, rfl, b1', room _ (by rw [List.length_map, List.length_append, List.length_singleton]; omega), ?_⟩
        rw [snoc]
        refine ⟨_, _, _, _, rfl, upd_same, sub (sub b2 (by rw [PySem.strLen_append, PySem.strLen_append]; omega)) (by rw [PySem.strLen_append, PySem.strLen_append]; omega), ?_, Same.newer hp (Same.newer hp b4)⟩
        rw [List.length_append, List.length_append, List.length_singleton, List.length_singleton]
        omega
      · rintro σ H3 ⟨zs', q3, q4, q5, rfl, b1, b2, b3, b4⟩
        have b3 : zs'.length ≤ 9 + 10 * i + 2 * 4 := b3
        exact ⟨zs', _, _, _, _, rfl, b1, b2, by omega, b4⟩
    · rintro σ H1 ⟨ys, o2, o3, o4, o5, rfl, a1, a2, a3, a4⟩
      exact ⟨_, rfl, k p ys H1 a1 a2 a4⟩
end
end K86
namespace Vr
open PySem PySem.Spec PyProof.Rows L2
section
variable {X : Cx} {k : Nat} {f : Addr} {fd : FuncData} {ps : List Str} {sp : Sp} {x : Str} {p pos : Pos} {e : Expr} {es : List Expr} {t : TA}
/-- a def is called whose promise is asked only where no repr is under way -/
theorem pe_callG (F : GOk X.prog X.w X.K X.mg X.base CX0 k f fd ps sp) (ga : X.A.guards = some []) (hr : Room k X.A) (hg : Gl X x) (hm : X.mg x = some (.ref f)) (hk : PySem.W.keepIn X.K (.ref f) = true) (hb : L2.Binds X.K fd ps [])
    (ha : PA X (e :: es) t) (hdb : (x == ("__debug__" : Str)) = false := by decide) (he : starEach (e :: es) X.env = (false, eval e X.env) :: starEach es X.env := by rfl) (hpl : (backTo pos (starEach es X.env)).any (·.1) = false := by rfl) :
    PE X (.Call (.Name x p) (e :: es) [] pos) (tCall sp [] E0 t) := by
  refine ⟨fun pins s σ H Q I h => wpAny_Call_Name_kw (ld_glob I hg hm (PySem.W.callWith_K (h₀ := X.base) I.ok.mod.kin hk (thn (ha.run pos pins s σ H _ I h) ?_) he hpl) hdb)⟩
  intro us s1 ⟨vs, H1, I1, r, q⟩
  refine ⟨I1.kIn, ?_⟩
  have q' : sp vs H1 Q E0 := by
    have z : sp (vs ++ []) H1 Q E0 := q
    rw [List.append_nil] at z
    exact z
  have len : us.length = ps.length := r.length.symm.trans (F.len _ _ _ _ q')
  have b := hb s1 us I1.kIn (by rw [List.append_nil]; exact len)
  rw [List.append_nil] at b
  refine wpAny_call (codeAny_mono (F.run X.A X.stack s1 H1 ⟨us, []⟩ us vs Q E0 ga hr I1.env0 b r q') ?_)
  intro res s' done
  cases res with
  | error err => exact done.elim
  | ok fl =>
    cases fl with
    | ret u => exact I1.after done
    | next => exact done.elim
    | brk => exact done.elim
    | cont => exact done.elim
end
end Vr
namespace K86
open PySem PySem.Spec PyProof.Rows L2 Vr TL CwR
/-! ### trees with other leaves -/
def signB (c : Nat) : Bool := c == 32 || c == 40 || c == 41
structure Word (x : Str) : Prop where
  plain : ∀ c ∈ x.cps.toList, signB c = false
  low : ∀ c ∈ x.cps.toList, c ≤ 122
  len : x.length ≤ 7
def wordB (x : Str) : Bool := x.cps.toList.all (fun c => !signB c && decide (c ≤ 122)) && decide (x.length ≤ 7)
theorem word_of {x : Str} (h : wordB x = true) : Word x := by
  unfold wordB at h
  rw [Bool.and_eq_true, List.all_eq_true, decide_eq_true_iff] at h
  refine ⟨fun c hc => ?_, fun c hc => ?_, h.2⟩
  · have := h.1 c hc
    rw [Bool.and_eq_true, Bool.not_eq_true'] at this
    exact this.1
  · have := h.1 c hc
    rw [Bool.and_eq_true] at this
    exact of_decide_eq_true this.2
theorem Good.word {x : Str} (g : Good x) : Word x := by
  refine ⟨fun c hc => ?_, fun c hc => (g.low c hc).2, by have := g.six; omega⟩
  have := g.low c hc
  unfold signB
  have e1 : (c == 32) = false := by simp; omega
  have e2 : (c == 40) = false := by simp; omega
  have e3 : (c == 41) = false := by simp; omega
  rw [e1, e2, e3]
  rfl
def AllWord (t : T) : Prop := ∀ x ∈ t.row, Word x
def Stop : List Nat → Prop
  | [] => True
  | c :: _ => c = 32 ∨ c = 41
theorem span_word : ∀ {x r : List Nat}, (∀ c ∈ x, signB c = false) → Stop r → (x ++ r).takeWhile (fun c => !signB c) = x
  | [], [], _, _ => rfl
  | [], c :: r, _, h => by
    have h' : signB c = true := by
      rcases (show c = 32 ∨ c = 41 from h) with rfl | rfl <;> rfl
    simp [List.takeWhile, h']
  | c :: x, r, h, hr => by
    have hc := h c List.mem_cons_self
    simp only [List.cons_append, List.takeWhile, hc]
    rw [span_word (fun d hd => h d (List.mem_cons_of_mem _ hd)) hr]
    rfl
theorem AllWord.l {l r : T} (h : AllWord (.node l r)) : AllWord l := fun x hx => h x (List.mem_append_left _ hx)
theorem AllWord.r {l r : T} (h : AllWord (.node l r)) : AllWord r := fun x hx => h x (List.mem_append_right _ hx)
theorem stop32 (l : List Nat) : Stop (32 :: l) := Or.inl rfl
theorem stop41 (l : List Nat) : Stop (41 :: l) := Or.inr rfl
theorem no40 {x : Str} {r s : List Nat} (h : Word x) (hr : Stop r) (e : x.cps.toList ++ r = 40 :: s) : False := by
  cases q : x.cps.toList with
  | nil =>
    rw [q] at e
    cases r with
    | nil => cases e
    | cons c r' =>
      rw [List.nil_append, List.cons.injEq] at e
      rcases (show c = 32 ∨ c = 41 from hr) with z | z <;> omega
  | cons c l =>
    rw [q, List.cons_append, List.cons.injEq] at e
    have := h.plain c (by rw [q]; exact List.mem_cons_self)
    rw [e.1] at this
    cases this
theorem tx_uniq2 : ∀ (t t' : T) (r r' : List Nat), AllWord t → AllWord t' → Stop r → Stop r' → tx t ++ r = tx t' ++ r' → t = t' ∧ r = r'
  | .leaf x, .leaf y, r, r', g, g', h, h', e => by
    have e1 : x.cps.toList ++ r = y.cps.toList ++ r' := e
    have a := span_word (g x (List.mem_singleton.mpr rfl)).plain h
    have b := span_word (g' y (List.mem_singleton.mpr rfl)).plain h'
    have e2 : x.cps.toList = y.cps.toList := by rw [← a, ← b, e1]
    have e3 : x = y := tl_inj e2
    subst e3
    exact ⟨rfl, List.append_cancel_left e1⟩
  | .leaf x, .node l s, r, r', g, g', h, h', e => (no40 (g x (List.mem_singleton.mpr rfl)) h (show x.cps.toList ++ r = 40 :: _ from e)).elim
  | .node l s, .leaf x, r, r', g, g', h, h', e => (no40 (g' x (List.mem_singleton.mpr rfl)) h' (show x.cps.toList ++ r' = 40 :: _ from e.symm)).elim
  | .node l s, .node l' s', r, r', g, g', h, h', e => by
    simp only [tx, List.cons_append, List.append_assoc, List.cons.injEq, true_and, List.nil_append] at e
    obtain ⟨e1, e2⟩ := tx_uniq2 l l' _ _ g.l g'.l (stop32 _) (stop32 _) e
    simp only [List.cons.injEq, true_and] at e2
    obtain ⟨e3, e4⟩ := tx_uniq2 s s' _ _ g.r g'.r (stop41 _) (stop41 _) e2
    simp only [List.cons.injEq, true_and] at e4
    rw [e1, e3, e4]
    exact ⟨rfl, rfl⟩
/-- the text of a tree whose leaves are words is read where they are names, else it is refused -/
theorem read_word {t : T} {z : Str} (w : AllWord t) (e : z.cps.toList = tx t) : readOf z = if (t.row.all goodB) = true then some t else none := by
  by_cases c : (t.row.all goodB) = true
  · rw [if_pos c]
    exact readOf_some.mpr ⟨fun x hx => good_ofB (List.all_eq_true.mp c x hx), e⟩
  · rw [if_neg c]
    refine readOf_none fun t' g' e' => c ?_
    obtain ⟨q, _⟩ := tx_uniq2 t t' [] [] w (fun x hx => (g' x hx).word) trivial trivial (by rw [← e, e'])
    rw [List.all_eq_true]
    intro x hx
    rw [q] at hx
    exact good_B (g' x hx)
theorem isT_row : ∀ t : T, isT t.data = t.row.all goodB
  | .leaf x => by
    simp only [T.data, isT, T.row, List.all_cons, List.all_nil, Bool.and_true]
  | .node l r => by
    simp only [T.data, isT, isTAll, T.row, List.all_append, isT_row l, isT_row r, Bool.and_true]
    rfl
theorem word_fit : ∀ t : T, AllWord t → Fit t.depth (90 * t.size) t.size t.data
  | .leaf x, h => by
    have g := h x (List.mem_singleton.mpr rfl)
    refine ⟨?_, ?_, ?_, ?_, ?_, ?_⟩
    · have := g.len
      simp only [T.data, K86.ok]
      exact decide_eq_true (by omega)
    · simp only [T.data, PyData.canLay0]
      unfold PyData.strOk
      rw [Array.all_eq_true']
      intro c hc
      have := g.low c (by simpa using hc)
      exact decide_eq_true (by omega)
    · simp only [T.data, PyData.showable]
    · simp only [T.data, PyData.depth]
      exact Nat.zero_le _
    · have q := StrLaws.reprText_len x fun c hc => Nat.lt_of_le_of_lt (g.low c hc) (by decide)
      have := g.len
      simp only [T.data, wt, T.size]
      omega
    · simp only [T.data, nd, T.size]
      exact Nat.le_refl _
  | .node l r, h => by
    refine ((word_fit l h.l).pair (word_fit r h.r)).mono (Nat.le_refl _) ?_ ?_
    · simp only [T.size]
      omega
    · simp only [T.size]
      omega
theorem tx_wlen : ∀ t : T, AllWord t → (tx t).length + 3 ≤ 10 * t.row.length
  | .leaf x, h => by
    have g := (h x (List.mem_singleton.mpr rfl)).len
    rw [cps_len] at g
    simp only [tx, T.row, List.length_singleton]
    omega
  | .node l r, h => by
    have h1 := tx_wlen l h.l
    have h2 := tx_wlen r h.r
    simp only [tx, T.row, List.length_cons, List.length_append, List.length_nil]
    omega
end K86
namespace K86
open PySem PySem.Spec PyProof.Rows L2 Vr TL CwR
theorem Fit.one {n w k : Nat} {d : PyData} (h : Fit n w k d) : Fit (n + 1) (w + 8) (1 + k) (.list [d]) := by
  refine ⟨?_, ?_, ?_, ?_, ?_, ?_⟩
  · simp only [K86.ok, okAll, h.ok, Bool.and_self]
  · simp only [PyData.canLay0, PyData.canLayAll0, h.lay, Bool.and_self]
  · simp only [PyData.showable, PyData.showableAll, h.sho, Bool.and_self]
  · have := h.dep
    simp only [PyData.depth, PyData.depthAll]
    omega
  · have := h.wid
    simp only [wt, wtAll]
    omega
  · have := h.nod
    simp only [nd, ndAll]
    omega
abbrev sWords : Stmt := top 20
def words13 : List Str := ["self", "other", "super", "raises", "abcdefg", "", "selfs", "raise", "supers", "aself", "abcdef", "A", "a1"]
def taken6 : List Str := ["self", "other", "super", "raises", "A", "a1"]
def dueB (w : Str) : Bool := decide (1 ≤ (w.length : Int)) && (decide ((w.length : Int) ≤ 6) && !(taken6.any fun y => y == w))
theorem words_ok : (words13.all fun w => wordB w && (dueB w == goodB w)) = true := by decide +kernel
theorem word_ok {w : Str} (h : w ∈ words13) : Word w ∧ dueB w = goodB w := by
  have q := List.all_eq_true.mp words_ok w h
  rw [Bool.and_eq_true] at q
  exact ⟨word_of q.1, by simpa using q.2⟩
theorem inV_strs (w : Str) (l : List Str) : inV (.str w) (l.map V.str) = l.any fun y => y == w := by
  unfold inV
  rw [List.any_map]
  rfl
/-- the law's own judgement of a word -/
theorem due_read {K : PySem.W.Frag} {w : Str} {σ : L2.St} {H : Hp} {Q : VK} (hσ : σ[3]? = some (some (.str w))) (hz : w.length ≤ 1000) (h : ∀ H', Same H H' → Q (.bl (dueB w)) H') :
    tAndV (tChain (rI0 fun i j => V.bl (decide (i ≤ j))) (rI0 fun i j => V.bl (decide (i ≤ j))) (tC (V.int 1)) (tCB (fun xs H Q => ∃ z, xs = [V.str z] ∧ z.length ≤ sizeLine ∧ Q (V.int z.length) H) (tCons (tVar 3) tNil)) (tC (V.int 6)))
      (tOp (rIn K true) (tVar 3) (tLst (tCons (tC (V.str (Str.ofString "self"))) (tCons (tC (V.str (Str.ofString "other"))) (tCons (tC (V.str (Str.ofString "super"))) (tCons (tC (V.str (Str.ofString "raises"))) (tCons (tC (V.str (Str.ofString "A"))) (tCons (tC (V.str (Str.ofString "a1"))) tNil)))))))) σ H Q := by
  have zs : w.length ≤ sizeLine := by
    rw [sizeLine_eq]
    omega
  refine ⟨_, hσ, w, rfl, zs, _, _, rfl, rfl, _, rfl, ?_⟩
  unfold dueB at h
  refine ite2 (fun c1 => ?_) (fun c1 => ?_)
  · have c1' : decide (1 ≤ (w.length : Int)) = true := c1
    rw [c1', Bool.true_and] at h
    refine ⟨_, _, rfl, rfl, _, rfl, ?_⟩
    refine ite2 (fun c2 => ?_) (fun c2 => ?_)
    · have c2' : decide ((w.length : Int) ≤ 6) = true := c2
      rw [c2', Bool.true_and] at h
      refine ⟨_, hσ, (by show 6 ≤ sizeLine; decide), fun q hq => ⟨q, taken6.map V.str, rfl, Or.inl (SqL.of upd_same), rfl, rfl, ?_⟩⟩
      have q := h _ (Same.new (o := .lst (taken6.map V.str)) hq)
      rw [← inV_strs] at q
      exact q
    · have c2' : decide ((w.length : Int) ≤ 6) = false := Bool.eq_false_iff.mpr c2
      rw [c2'] at h
      exact h _ (Same.refl H)
  · have c1' : decide (1 ≤ (w.length : Int)) = false := Bool.eq_false_iff.mpr c1
    rw [c1'] at h
    exact ⟨_, rfl, h _ (Same.refl H)⟩
/-- a tree over names and the word -/
def Tw (w : Str) (H : Hp) (v : V) : Prop := ∃ t : T, TreeAt H v t ∧ AllWord t ∧ (t.row.all goodB) = goodB w ∧ t.row.length ≤ 3
theorem Tw.same {w : Str} {H H' : Hp} {v : V} (h : Tw w H v) (k : Same H H') : Tw w H' v := by
  obtain ⟨t, h1, h2⟩ := h
  exact ⟨t, h1.same k, h2⟩
theorem heapR {B : Hp → Prop} {H : Hp} {p : Addr} {o : HO} (hp : H p = none) (h : ∀ H', H' p = some o → Same H H' → B H') : B (upd H p o) := h _ upd_same (Same.new hp)
def spWords : Sp := fun vs H Q _ => ∃ x y : Str, vs = [.str x, .str y] ∧ Good x ∧ Good y ∧ ∀ H', Q (.bl true) H'
section
variable {P : Program} {w : World} {K : PySem.W.Frag} {mg : Str → Option Value} {base : Heap}
abbrev nWords : List Str := ["_law_one", "_law_other", "_law_words", "_law_word", "_law_due_here", "_law_tree", "_law_told_here"]
theorem scWords : FnScope nWords ["_law_one", "_law_other"] (defScope sWords) := ⟨rfl, rfl, rfl, by decide +kernel, rfl, by decide +kernel, by decide +kernel⟩
theorem ok_words {f fTo fTx fIt : Addr} {fd dTo dTx dIt : FuncData} (F : Fun K "_law_words_right" "_law_words_right" sWords f fd)
    (GTo : FnOk P w K mg base CX0 4 fTo dTo ["_law_text_here"] spTold) (bTo : Binds K dTo ["_law_text_here"] []) (mTo : mg "_law_told" = some (.ref fTo)) (kTo : PySem.W.keepIn K (.ref fTo) = true)
    (GTx : FnOk P w K mg base CX0 13 fTx dTx ["_law_tree"] (spText 12)) (bTx : Binds K dTx ["_law_tree"] []) (mTx : mg "_law_text" = some (.ref fTx)) (kTx : PySem.W.keepIn K (.ref fTx) = true)
    (GIt : FnOk P w K mg base CX0 2 fIt dIt ["value"] spIsTree) (bIt : Binds K dIt ["value"] []) (mIt : mg "is_tree" = some (.ref fIt)) (kIt : PySem.W.keepIn K (.ref fIt) = true)
    (gLen : mg "len" = none) (gRepr : mg "repr" = none) (gInt : mg "int" = none) :
    GOk P w K mg base CX0 14 f fd ["_law_one", "_law_other"] spWords := by
  refine fun_okG F scWords (fun vs H Q E h => ?_) (fun cdv A outer s H vs Q E hg hr h => ?_)
  · obtain ⟨x, y, rfl, _⟩ := h
    rfl
  · obtain ⟨x, y, rfl, gx, gy, k⟩ := h
    have r2 : Room 2 _ := hr.mono (by decide)
    have r4 : Room 4 _ := hr.mono (by decide)
    refine ⟨_, pss_cons (ps_set (i := 2) scWords.nd rfl (Or.inl rfl) (pe_lst (pa_cons pe_str (pa_cons pe_str (pa_cons pe_str (pa_cons pe_str (pa_cons pe_str (pa_cons pe_str (pa_cons pe_str (pa_cons pe_str (pa_cons pe_str (pa_cons pe_str (pa_cons pe_str pa_nil)))))))))))))
      (pss_cons (ps_for PassesOwn.never rfl (pi_list (pe_op op_cat (pv 2) (pe_lst (pa_cons pe_str (pa_cons pe_str pa_nil))))) (pg_name (i := 3) scWords.nd rfl (Or.inl rfl))
        (pss_cons (ps_set (i := 4) scWords.nd rfl (Or.inl rfl) (pe_and (pe_chain op_le op_le pe_int (pe_callB call_len_str (by rfl) gLen PySem.boot_len (pa_cons (pv 3) pa_nil)) pe_int)
            (pe_one (pe_cmpR op_notIn_seq (pv 3) (pe_lst (pa_cons pe_str (pa_cons pe_str (pa_cons pe_str (pa_cons pe_str (pa_cons pe_str (pa_cons pe_str pa_nil))))))) (by rfl)))))
        (pss_one (ps_for PassesOwn.never rfl (pi_list (pe_lst (pa_cons (pv 3) (pa_cons (pe_tup (pa_cons (pv 3) (pa_cons (pv 0) pa_nil))) (pa_cons (pe_tup (pa_cons (pv 0) (pa_cons (pv 3) pa_nil)))
            (pa_cons (pe_tup (pa_cons (pv 0) (pa_cons (pe_tup (pa_cons (pv 1) (pa_cons (pv 3) pa_nil))) pa_nil))) (pa_cons (pe_tup (pa_cons (pe_tup (pa_cons (pv 3) (pa_cons (pv 0) pa_nil))) (pa_cons (pv 1) pa_nil))) pa_nil))))))) (pg_name (i := 5) scWords.nd rfl (Or.inl rfl))
          (pss_cons (ps_set (i := 6) scWords.nd rfl (Or.inl rfl) (pe_callB (call_reprD hg hr) (by rfl) gRepr (by decide +kernel) (pa_cons (pe_call GTo r4 rfl mTo kTo bTo .nil pass0 (pa_cons (pe_call GTx hr rfl mTx kTx bTx .nil pass0 (pa_cons (pv 5) pa_nil)) pa_nil)) pa_nil)))
          (pss_one (ps_if (PW.pt (pw_or (pt_cmpR op_ne (pe_callB (call_reprD hg hr) (by rfl) gRepr (by decide +kernel) (pa_cons (pe_call GIt r2 rfl mIt kIt bIt .nil pass0 (pa_cons (pv 5) pa_nil)) pa_nil))
                (pe_callB (call_reprD hg hr) (by rfl) gRepr (by decide +kernel) (pa_cons (pv 4) pa_nil)) (nomark _))
              (pw_or1 (pt_cmpR op_ne (pv 6) (pe_callB (call_reprD hg hr) (by rfl) gRepr (by decide +kernel) (pa_cons (pe_op op_rep (pe_lst (pa_cons (pv 5) pa_nil)) (pe_callTy call_int1 (by rfl) gInt (by decide +kernel) (pa_cons (pv 4) pa_nil))) pa_nil)) (nomark _)))))
            (pss_one (ps_ret pe_bl)) pss_nil)))))))
      (pss_one (ps_ret pe_bl))), ?_⟩
    refine ⟨(by show 11 ≤ sizeLine; decide), fun p1 n1 => ?_⟩
    have g1 := upd_same (H := H) (a := p1) (o := .lst [V.str (Str.ofString "self"), V.str (Str.ofString "other"), V.str (Str.ofString "super"), V.str (Str.ofString "raises"), V.str (Str.ofString "abcdefg"), V.str (Str.ofString ""), V.str (Str.ofString "selfs"), V.str (Str.ofString "raise"), V.str (Str.ofString "supers"), V.str (Str.ofString "aself"), V.str (Str.ofString "abcdef")])
    have s1 : Same H (upd H p1 (.lst [V.str (Str.ofString "self"), V.str (Str.ofString "other"), V.str (Str.ofString "super"), V.str (Str.ofString "raises"), V.str (Str.ofString "abcdefg"), V.str (Str.ofString ""), V.str (Str.ofString "selfs"), V.str (Str.ofString "raise"), V.str (Str.ofString "supers"), V.str (Str.ofString "aself"), V.str (Str.ofString "abcdef")])) := Same.new n1
    generalize upd H p1 (.lst [V.str (Str.ofString "self"), V.str (Str.ofString "other"), V.str (Str.ofString "super"), V.str (Str.ofString "raises"), V.str (Str.ofString "abcdefg"), V.str (Str.ofString ""), V.str (Str.ofString "selfs"), V.str (Str.ofString "raise"), V.str (Str.ofString "supers"), V.str (Str.ofString "aself"), V.str (Str.ofString "abcdef")]) = H1 at g1 s1 ⊢
    refine ⟨_, rfl, (by show 2 ≤ sizeLine; decide), fun p2 n2 => ?_⟩
    have g2 := upd_same (H := H1) (a := p2) (o := .lst [V.str (Str.ofString "A"), V.str (Str.ofString "a1")])
    have s2 : Same H1 (upd H1 p2 (.lst [V.str (Str.ofString "A"), V.str (Str.ofString "a1")])) := Same.new n2
    generalize upd H1 p2 (.lst [V.str (Str.ofString "A"), V.str (Str.ofString "a1")]) = H2 at g2 s2 ⊢
    refine ⟨p1, p2, _, _, rfl, rfl, s2 _ _ g1, g2, (by show 13 ≤ sizeLine; decide), fun p3 n3 => ?_⟩
    have g3 := upd_same (H := H2) (a := p3) (o := .lst ([V.str (Str.ofString "self"), V.str (Str.ofString "other"), V.str (Str.ofString "super"), V.str (Str.ofString "raises"), V.str (Str.ofString "abcdefg"), V.str (Str.ofString ""), V.str (Str.ofString "selfs"), V.str (Str.ofString "raise"), V.str (Str.ofString "supers"), V.str (Str.ofString "aself"), V.str (Str.ofString "abcdef")] ++ [V.str (Str.ofString "A"), V.str (Str.ofString "a1")]))
    have s3 : Same H2 (upd H2 p3 (.lst ([V.str (Str.ofString "self"), V.str (Str.ofString "other"), V.str (Str.ofString "super"), V.str (Str.ofString "raises"), V.str (Str.ofString "abcdefg"), V.str (Str.ofString ""), V.str (Str.ofString "selfs"), V.str (Str.ofString "raise"), V.str (Str.ofString "supers"), V.str (Str.ofString "aself"), V.str (Str.ofString "abcdef")] ++ [V.str (Str.ofString "A"), V.str (Str.ofString "a1")]))) := Same.new n3
    generalize upd H2 p3 (.lst ([V.str (Str.ofString "self"), V.str (Str.ofString "other"), V.str (Str.ofString "super"), V.str (Str.ofString "raises"), V.str (Str.ofString "abcdefg"), V.str (Str.ofString ""), V.str (Str.ofString "selfs"), V.str (Str.ofString "raise"), V.str (Str.ofString "supers"), V.str (Str.ofString "aself"), V.str (Str.ofString "abcdef")] ++ [V.str (Str.ofString "A"), V.str (Str.ofString "a1")])) = H3 at g3 s3 ⊢
    have g3 : H3 p3 = some (.lst (words13.map V.str)) := g3
    clear s1 s2 s3 g1 g2 n1 n2 n3
    refine ⟨p3, rfl, ⟨_, SqL.of g3⟩, for_list (K := K) (a := p3) (xs := words13.map V.str) (fun i σ H4 => ∃ (o3 o4 o5 o6 : Option V), σ = [some (.str x), some (.str y), some (.ref p1), o3, o4, o5, o6] ∧ Same H3 H4)
      ⟨none, none, none, none, rfl, Same.refl _⟩ (fun i σ H4 _ ⟨_, _, _, _, _, s4⟩ => SqL.of (s4 _ _ g3)) ?_ ?_⟩
    · rintro i v σ H4 hv ⟨o3, o4, o5, o6, rfl, s4⟩
      rw [List.getElem?_map] at hv
      cases ew : words13[i]? with
      | none =>
        rw [ew] at hv
        cases hv
      | some wd =>
        rw [ew] at hv
        cases hv
        obtain ⟨hw, hdue⟩ := word_ok (List.mem_of_getElem? ew)
        refine due_read rfl (by have := hw.len; omega) (fun H5 s5 => ?_)
        rw [hdue]
        -- the five trees
        refine ⟨_, rfl, _, rfl, _, rfl, (by show 2 ≤ sizeLine; decide), fun a1 n1 => ?_⟩
        have f1 := upd_same (H := H5) (a := a1) (o := .tup [.str wd, .str x])
        have z1 : Same H5 (upd H5 a1 (.tup [.str wd, .str x])) := Same.new n1
        generalize upd H5 a1 (.tup [.str wd, .str x]) = J1 at f1 z1 ⊢
        refine ⟨_, rfl, _, rfl, (by show 2 ≤ sizeLine; decide), fun a2 n2 => ?_⟩
        have f2 := upd_same (H := J1) (a := a2) (o := .tup [.str x, .str wd])
        have z2 : Same J1 (upd J1 a2 (.tup [.str x, .str wd])) := Same.new n2
        generalize upd J1 a2 (.tup [.str x, .str wd]) = J2 at f2 z2 ⊢
        refine ⟨_, rfl, _, rfl, _, rfl, (by show 2 ≤ sizeLine; decide), fun a3 n3 => ?_⟩
        have f3 := upd_same (H := J2) (a := a3) (o := .tup [.str y, .str wd])
        have z3 : Same J2 (upd J2 a3 (.tup [.str y, .str wd])) := Same.new n3
        generalize upd J2 a3 (.tup [.str y, .str wd]) = J3 at f3 z3 ⊢
        refine ⟨(by show 2 ≤ sizeLine; decide), fun a4 n4 => ?_⟩
        have f4 := upd_same (H := J3) (a := a4) (o := .tup [.str x, .ref a3])
        have z4 : Same J3 (upd J3 a4 (.tup [.str x, .ref a3])) := Same.new n4
        generalize upd J3 a4 (.tup [.str x, .ref a3]) = J4 at f4 z4 ⊢
        refine ⟨_, rfl, _, rfl, (by show 2 ≤ sizeLine; decide), fun a5 n5 => ?_⟩
        have f5 := upd_same (H := J4) (a := a5) (o := .tup [.str wd, .str x])
        have z5 : Same J4 (upd J4 a5 (.tup [.str wd, .str x])) := Same.new n5
        generalize upd J4 a5 (.tup [.str wd, .str x]) = J5 at f5 z5 ⊢
        refine ⟨_, rfl, (by show 2 ≤ sizeLine; decide), fun a6 n6 => ?_⟩
        have f6 := upd_same (H := J5) (a := a6) (o := .tup [.ref a5, .str y])
        have z6 : Same J5 (upd J5 a6 (.tup [.ref a5, .str y])) := Same.new n6
        generalize upd J5 a6 (.tup [.ref a5, .str y]) = J6 at f6 z6 ⊢
        refine ⟨(by show 5 ≤ sizeLine; decide), fun a7 n7 => ?_⟩
        have f7 := upd_same (H := J6) (a := a7) (o := .lst [.str wd, .ref a1, .ref a2, .ref a4, .ref a6])
        have z7 : Same J6 (upd J6 a7 (.lst [.str wd, .ref a1, .ref a2, .ref a4, .ref a6])) := Same.new n7
        generalize upd J6 a7 (.lst [.str wd, .ref a1, .ref a2, .ref a4, .ref a6]) = J7 at f7 z7 ⊢
        have z67 := z7
        have z57 := z6.trans z67
        have z47 := z5.trans z57
        have z37 := z4.trans z47
        have z27 := z3.trans z37
        have z17 := z2.trans z27
        have bx := good_B gx
        have bby := good_B gy
        have ww : ∀ t : T, (∀ u ∈ t.row, u = wd ∨ u = x ∨ u = y) → AllWord t := fun t h u hu => by
          rcases h u hu with rfl | rfl | rfl
          · exact hw
          · exact gx.word
          · exact gy.word
        have tw : ∀ v ∈ [V.str wd, .ref a1, .ref a2, .ref a4, .ref a6], Tw wd J7 v := by
          intro v hv
          rcases List.mem_cons.mp hv with rfl | hv
          · exact ⟨.leaf wd, rfl, ww _ (by simp [T.row]), by simp [T.row], by simp [T.row]⟩
          rcases List.mem_cons.mp hv with rfl | hv
          · exact ⟨.node (.leaf wd) (.leaf x), ⟨a1, _, _, rfl, z17 _ _ f1, rfl, rfl⟩, ww _ (by simp [T.row]), by simp [T.row, bx], by simp [T.row]⟩
          rcases List.mem_cons.mp hv with rfl | hv
          · exact ⟨.node (.leaf x) (.leaf wd), ⟨a2, _, _, rfl, z27 _ _ f2, rfl, rfl⟩, ww _ (by simp [T.row]), by simp [T.row, bx], by simp [T.row]⟩
          rcases List.mem_cons.mp hv with rfl | hv
          · exact ⟨.node (.leaf x) (.node (.leaf y) (.leaf wd)), ⟨a4, _, _, rfl, z47 _ _ f4, rfl, a3, _, _, rfl, z37 _ _ f3, rfl, rfl⟩, ww _ (by simp [T.row]), by simp [T.row, bx, bby], by simp [T.row]⟩
          rw [List.mem_singleton.mp hv]
          exact ⟨.node (.node (.leaf wd) (.leaf x)) (.leaf y), ⟨a6, _, _, rfl, z67 _ _ f6, ⟨a5, _, _, rfl, z57 _ _ f5, rfl, rfl⟩, rfl⟩, ww _ (by simp [T.row]), by simp [T.row, bx, bby], by simp [T.row]⟩
        have s7 : Same H3 J7 := s4.trans (s5.trans (z1.trans z17))
        clear f1 f2 f3 f4 f5 f6 z1 z2 z3 z4 z5 z6 z67 z57 z47 z37 z27 z17 n1 n2 n3 n4 n5 n6 n7
        refine ⟨a7, rfl, ⟨_, SqL.of f7⟩, for_list (K := K) (a := a7) (xs := [.str wd, .ref a1, .ref a2, .ref a4, .ref a6]) (fun j σ H6 => ∃ (o5 o6 : Option V), σ = [some (.str x), some (.str y), some (.ref p1), some (.str wd), some (.bl (goodB wd)), o5, o6] ∧ Same J7 H6)
          ⟨_, _, rfl, Same.refl _⟩ (fun j σ H6 _ ⟨_, _, _, s6⟩ => SqL.of (s6 _ _ f7)) ?_ ?_⟩
        · rintro j v σ H6 hv ⟨q5, q6, rfl, s6⟩
          obtain ⟨t, ht, wt', eg, rl⟩ := (tw v (List.mem_of_getElem? hv)).same s6
          have dp := t.depth_row
          have sz := t.size_row
          have xl := tx_wlen t wt'
          have ft := word_fit t wt'
          have fl := Fit.one ft
          have nd1 := ft.nod
          refine ⟨_, rfl, v, t, rfl, ht, by omega, by omega, fun z ez => ?_⟩
          have zl := cps_len z
          rw [ez] at zl
          have rw_ := read_word wt' ez
          have ist := isT_row t
          rw [eg] at rw_ ist
          cases hgd : goodB wd with
          | true =>
            rw [hgd] at rw_ ist
            rw [if_pos rfl] at rw_
            refine ⟨z, rfl, by omega, fun t2 e2 p v2 H7 hp t7 s8 => ?_, fun en => ?_⟩
            · have ett : t2 = t := Option.some.inj (e2.symm.trans rw_)
              subst ett
              refine ⟨.ref p, .list [t2.data], rfl, (DatAt.lst hp (.cons t7.dat .nil)).dp, fl.shaped (by omega), fl.sho, fl.short (by omega), ?_⟩
              refine ⟨_, rfl, v, t2.data, rfl, (ht.same s8).dat, ft.ok, by omega, fun H8 s9 => ?_⟩
              rw [ist]
              refine ⟨.bl true, .bool true, rfl, .bl _, by decide +kernel, by decide +kernel, by decide +kernel, ?_⟩
              refine ⟨_, rfl, .bl true, .bool true, rfl, .bl _, by decide +kernel, by decide +kernel, by decide +kernel, rfl, _, rfl, ?_⟩
              refine iteNS rfl ?_
              refine ⟨_, rfl, _, rfl, (by show 1 ≤ sizeLine; decide), fun q hq => ?_⟩
              refine ⟨_, rfl, Or.inr ⟨true, rfl, q, _, [v], rfl, rfl, upd_same, by decide, by decide, by (show 1 * 1 ≤ sizeLine); decide, fun p2 hp2 => ?_⟩⟩
              have tq := ((((ht.same s8).same s9).new (o := .lst [v]) hq).new (o := .lst [v]) hp2)
              refine ⟨.ref p2, .list [t2.data], rfl, (DatAt.lst upd_same (.cons tq.dat .nil)).dp, fl.shaped (by omega), fl.sho, fl.short (by omega), rfl, _, rfl, ?_⟩
              refine iteNS rfl ?_
              exact ⟨_, _, rfl, s6.trans (s8.trans (s9.trans ((Same.new hq).trans (Same.new hp2))))⟩
            · rw [rw_] at en
              cases en
          | false =>
            rw [hgd] at rw_ ist
            rw [if_neg Bool.false_ne_true] at rw_
            refine ⟨z, rfl, by omega, fun t2 e2 => ?_, fun en p H7 hp s8 => ?_⟩
            · rw [rw_] at e2
              cases e2
            · refine ⟨.ref p, .list [], rfl, (DatAt.lst hp .nil).dp, by decide +kernel, by decide +kernel, by decide +kernel, ?_⟩
              refine ⟨_, rfl, v, t.data, rfl, (ht.same s8).dat, ft.ok, by omega, fun H8 s9 => ?_⟩
              rw [ist]
              refine ⟨.bl false, .bool false, rfl, .bl _, by decide +kernel, by decide +kernel, by decide +kernel, ?_⟩
              refine ⟨_, rfl, .bl false, .bool false, rfl, .bl _, by decide +kernel, by decide +kernel, by decide +kernel, rfl, _, rfl, ?_⟩
              refine iteNS rfl ?_
              refine ⟨_, rfl, _, rfl, (by show 1 ≤ sizeLine; decide), fun q hq => ?_⟩
              refine ⟨_, rfl, Or.inr ⟨false, rfl, q, _, [v], rfl, rfl, upd_same, by decide, by decide, by (show 1 * 0 ≤ sizeLine); decide, fun p2 hp2 => ?_⟩⟩
              refine ⟨.ref p2, .list [], rfl, (DatAt.lst upd_same .nil).dp, by decide +kernel, by decide +kernel, by decide +kernel, rfl, _, rfl, ?_⟩
              refine iteNS rfl ?_
              exact ⟨_, _, rfl, s6.trans (s8.trans (s9.trans ((Same.new hq).trans (Same.new hp2))))⟩
        · rintro σ H6 ⟨q5, q6, rfl, s6⟩
          exact ⟨_, _, _, _, rfl, s7.trans s6⟩
    · rintro σ H4 ⟨o3, o4, o5, o6, rfl, s4⟩
      exact k _
end
end K86
namespace K86
open PySem PySem.Spec PyProof.Rows L2 Vr TL CwR
theorem T.depth_tx : ∀ t : T, AllGood t → 4 * t.depth + 1 ≤ (tx t).length
  | .leaf x, h => by
    have g := h.leaf.one
    rw [cps_len] at g
    simp only [tx, T.depth]
    omega
  | .node l r, h => by
    have h1 := T.depth_tx l h.l
    have h2 := T.depth_tx r h.r
    simp only [tx, T.depth, List.length_cons, List.length_append, List.length_nil]
    omega
theorem T.row_tx : ∀ t : T, AllGood t → 4 * t.row.length ≤ (tx t).length + 3
  | .leaf x, h => by
    have g := h.leaf.one
    rw [cps_len] at g
    simp only [tx, T.row, List.length_singleton]
    omega
  | .node l r, h => by
    have h1 := T.row_tx l h.l
    have h2 := T.row_tx r h.r
    simp only [tx, T.row, List.length_cons, List.length_append, List.length_nil]
    omega
/-- a small tree over names -/
def Tn (H : Hp) (v : V) : Prop := ∃ t : T, TreeAt H v t ∧ AllGood t ∧ t.row.length ≤ 4
theorem Tn.same {H H' : Hp} {v : V} (h : Tn H v) (k : Same H H') : Tn H' v := by
  obtain ⟨t, h1, h2⟩ := h
  exact ⟨t, h1.same k, h2⟩
def spLaw (K : PySem.W.Frag) : Sp := fun vs H Q _ => ∃ (a : Addr) (ns : List Int), vs = [.ref a] ∧ SqL K H a (ns.map V.int) ∧ ns.length ≤ 63 ∧ ∀ H', Q (.bl true) H'
structure Txt (P : Program) (w : World) (K : PySem.W.Frag) (mg : Str → Option Value) (base : Heap) where
  (fB fN fTx fNe fDu fTo fWo : Addr)
  (dB dN dTx dNe dDu dTo dWo : FuncData)
  bag : FnOk P w K mg base CX0 1 fB dB ["_law_script", "_law_at"] (spBag K)
  names : FnOk P w K mg base CX0 2 fN dN ["_law_bag_here", "_law_many"] spNames
  text : FnOk P w K mg base CX0 13 fTx dTx ["_law_tree"] (spText 12)
  near : FnOk P w K mg base CX0 1 fNe dNe ["_law_text_here"] spNear
  due : FnOk P w K mg base CX0 152 fDu dDu ["_law_text_here"] (spDue 150)
  told : FnOk P w K mg base CX0 4 fTo dTo ["_law_text_here"] spTold
  words : GOk P w K mg base CX0 14 fWo dWo ["_law_one", "_law_other"] spWords
  bagB : Binds K dB ["_law_script", "_law_at"] []
  namesB : Binds K dN ["_law_bag_here", "_law_many"] []
  textB : Binds K dTx ["_law_tree"] []
  nearB : Binds K dNe ["_law_text_here"] []
  dueB : Binds K dDu ["_law_text_here"] []
  toldB : Binds K dTo ["_law_text_here"] []
  wordsB : Binds K dWo ["_law_one", "_law_other"] []
  bagM : mg "_law_bag" = some (.ref fB)
  namesM : mg "_law_names" = some (.ref fN)
  textM : mg "_law_text" = some (.ref fTx)
  nearM : mg "_law_near" = some (.ref fNe)
  dueM : mg "_law_due" = some (.ref fDu)
  toldM : mg "_law_told" = some (.ref fTo)
  wordsM : mg "_law_words_right" = some (.ref fWo)
  bagK : PySem.W.keepIn K (.ref fB) = true
  namesK : PySem.W.keepIn K (.ref fN) = true
  textK : PySem.W.keepIn K (.ref fTx) = true
  nearK : PySem.W.keepIn K (.ref fNe) = true
  dueK : PySem.W.keepIn K (.ref fDu) = true
  toldK : PySem.W.keepIn K (.ref fTo) = true
  wordsK : PySem.W.keepIn K (.ref fWo) = true
  gRepr : mg "repr" = none
section
variable {P : Program} {w : World} {K : PySem.W.Frag} {mg : Str → Option Value} {base : Heap}
abbrev nLaw : List Str := ["_law_script", "_law_bag_here", "_law_one", "_law_other", "_law_trees", "_law_tree", "_law_text_here", "_law_due_here"]
theorem scLaw : FnScope nLaw ["_law_script"] (defScope sLaw) := ⟨rfl, rfl, rfl, by decide +kernel, rfl, by decide +kernel, by decide +kernel⟩
theorem ok_law {f : Addr} {fd : FuncData} (F : Fun K "law" "law" sLaw f fd) (T : Txt P w K mg base) : GOk P w K mg base CX0 153 f fd ["_law_script"] (spLaw K) := by
  refine fun_okG F scLaw (fun vs H Q E h => ?_) (fun cdv A outer s H vs Q E hg hr h => ?_)
  · obtain ⟨a, ns, rfl, _⟩ := h
    rfl
  · obtain ⟨a, ns, rfl, hS, hlen, k⟩ := h
    have r1 : Room 1 _ := hr.mono (by decide)
    have r2 : Room 2 _ := hr.mono (by decide)
    have r4 : Room 4 _ := hr.mono (by decide)
    have r13 : Room 13 _ := hr.mono (by decide)
    have r14 : Room 14 _ := hr.mono (by decide)
    refine ⟨_, pss_cons (ps_set (i := 1) scLaw.nd rfl (Or.inl rfl) (pe_call T.bag r1 rfl T.bagM T.bagK T.bagB .nil pass0 (pa_cons (pv 0) (pa_cons pe_int pa_nil))))
      (pss_cons (ps_asg (pe_call T.names r2 rfl T.namesM T.namesK T.namesB .nil pass0 (pa_cons (pv 1) (pa_cons pe_int pa_nil))) (pg_lst rfl (pgs_cons (pg_name (i := 2) scLaw.nd rfl (Or.inl rfl)) (pgs_cons (pg_name (i := 3) scLaw.nd rfl (Or.inl rfl)) pgs_nil))))
      (pss_cons (ps_set (i := 4) scLaw.nd rfl (Or.inl rfl) (pe_lst (pa_cons (pv 2) (pa_cons (pe_tup (pa_cons (pv 2) (pa_cons (pv 3) pa_nil))) (pa_cons (pe_tup (pa_cons (pe_tup (pa_cons (pv 2) (pa_cons (pv 3) pa_nil))) (pa_cons (pv 2) pa_nil)))
          (pa_cons (pe_tup (pa_cons (pv 2) (pa_cons (pe_tup (pa_cons (pv 3) (pa_cons (pv 2) pa_nil))) pa_nil))) (pa_cons (pe_tup (pa_cons (pe_tup (pa_cons (pv 2) (pa_cons (pv 3) pa_nil))) (pa_cons (pe_tup (pa_cons (pv 3) (pa_cons (pv 2) pa_nil))) pa_nil))) pa_nil)))))))
      (pss_cons (ps_for PassesOwn.never rfl (pi_list (pv 4)) (pg_name (i := 5) scLaw.nd rfl (Or.inl rfl))
        (pss_one (ps_for PassesOwn.never rfl (pi_list (pe_call T.near r1 rfl T.nearM T.nearK T.nearB .nil pass0 (pa_cons (pe_call T.text r13 rfl T.textM T.textK T.textB .nil pass0 (pa_cons (pv 5) pa_nil)) pa_nil))) (pg_name (i := 6) scLaw.nd rfl (Or.inl rfl))
          (pss_cons (ps_set (i := 7) scLaw.nd rfl (Or.inl rfl) (pe_call T.due hr rfl T.dueM T.dueK T.dueB .nil pass0 (pa_cons (pv 6) pa_nil)))
          (pss_one (ps_if (pt_cmpR op_ne (pe_callB (call_reprD hg hr) (by rfl) T.gRepr (by decide +kernel) (pa_cons (pe_call T.told r4 rfl T.toldM T.toldK T.toldB .nil pass0 (pa_cons (pv 6) pa_nil)) pa_nil))
              (pe_callB (call_reprD hg hr) (by rfl) T.gRepr (by decide +kernel) (pa_cons (pe_ifExp (pt_cmpR op_isN (pv 7) pe_non (nomark _)) (pe_lst pa_nil) (pe_lst (pa_cons (pv 7) pa_nil))) pa_nil)) (nomark _)) (pss_one (ps_ret pe_bl)) pss_nil))))))
      (pss_one (ps_ret (pe_callG T.words hg r14 rfl T.wordsM T.wordsK T.wordsB (pa_cons (pv 2) (pa_cons (pv 3) pa_nil)))))))), ?_⟩
    -- the bag, the names
    refine ⟨_, rfl, a, ns, 0, rfl, hS, hlen, by omega, by omega, fun b H2 nb hb2 s2 => ?_⟩
    refine ⟨_, rfl, b, 2, rfl, by decide, by decide, hb2, fun p nms H4 np len4 good4 hp4 hb4 k4 => ?_⟩
    obtain ⟨x, y, exy⟩ : ∃ x y, nms = [x, y] := by
      match nms, len4 with
      | [x, y], _ => exact ⟨x, y, rfl⟩
      | [], h => exact absurd h (by decide)
      | [_], h =>
        simp only [List.length_cons, List.length_nil] at h
        omega
      | _ :: _ :: _ :: l, h =>
        simp only [List.length_cons] at h
        omega
    subst exy
    have gx := good4 x (by simp)
    have gy := good4 y (by simp)
    refine ⟨p, _, rfl, SqL.of hp4, rfl, _, _, rfl, _, _, rfl, rfl, ?_⟩
    refine ⟨_, rfl, _, rfl, _, rfl, (by show 2 ≤ sizeLine; decide), fun a1 n1 => ?_⟩
    have f1 := upd_same (H := H4) (a := a1) (o := .tup [.str x, .str y])
    have z1 : Same H4 (upd H4 a1 (.tup [.str x, .str y])) := Same.new n1
    generalize upd H4 a1 (.tup [.str x, .str y]) = J1 at f1 z1 ⊢
    refine ⟨_, rfl, _, rfl, (by show 2 ≤ sizeLine; decide), fun a2 n2 => ?_⟩
    have f2 := upd_same (H := J1) (a := a2) (o := .tup [.str x, .str y])
    have z2 : Same J1 (upd J1 a2 (.tup [.str x, .str y])) := Same.new n2
    generalize upd J1 a2 (.tup [.str x, .str y]) = J2 at f2 z2 ⊢
    refine ⟨_, rfl, (by show 2 ≤ sizeLine; decide), fun a3 n3 => ?_⟩
    have f3 := upd_same (H := J2) (a := a3) (o := .tup [.ref a2, .str x])
    have z3 : Same J2 (upd J2 a3 (.tup [.ref a2, .str x])) := Same.new n3
    generalize upd J2 a3 (.tup [.ref a2, .str x]) = J3 at f3 z3 ⊢
    refine ⟨_, rfl, _, rfl, _, rfl, (by show 2 ≤ sizeLine; decide), fun a4 n4 => ?_⟩
    have f4 := upd_same (H := J3) (a := a4) (o := .tup [.str y, .str x])
    have z4 : Same J3 (upd J3 a4 (.tup [.str y, .str x])) := Same.new n4
    generalize upd J3 a4 (.tup [.str y, .str x]) = J4 at f4 z4 ⊢
    refine ⟨(by show 2 ≤ sizeLine; decide), fun a5 n5 => ?_⟩
    have f5 := upd_same (H := J4) (a := a5) (o := .tup [.str x, .ref a4])
    have z5 : Same J4 (upd J4 a5 (.tup [.str x, .ref a4])) := Same.new n5
    generalize upd J4 a5 (.tup [.str x, .ref a4]) = J5 at f5 z5 ⊢
    refine ⟨_, rfl, _, rfl, (by show 2 ≤ sizeLine; decide), fun a6 n6 => ?_⟩
    have f6 := upd_same (H := J5) (a := a6) (o := .tup [.str x, .str y])
    have z6 : Same J5 (upd J5 a6 (.tup [.str x, .str y])) := Same.new n6
    generalize upd J5 a6 (.tup [.str x, .str y]) = J6 at f6 z6 ⊢
    refine ⟨_, rfl, _, rfl, (by show 2 ≤ sizeLine; decide), fun a7 n7 => ?_⟩
    have f7 := upd_same (H := J6) (a := a7) (o := .tup [.str y, .str x])
    have z7 : Same J6 (upd J6 a7 (.tup [.str y, .str x])) := Same.new n7
    generalize upd J6 a7 (.tup [.str y, .str x]) = J7 at f7 z7 ⊢
    refine ⟨(by show 2 ≤ sizeLine; decide), fun a8 n8 => ?_⟩
    have f8 := upd_same (H := J7) (a := a8) (o := .tup [.ref a6, .ref a7])
    have z8 : Same J7 (upd J7 a8 (.tup [.ref a6, .ref a7])) := Same.new n8
    generalize upd J7 a8 (.tup [.ref a6, .ref a7]) = J8 at f8 z8 ⊢
    refine ⟨(by show 5 ≤ sizeLine; decide), fun a9 n9 => ?_⟩
    have f9 := upd_same (H := J8) (a := a9) (o := .lst [.str x, .ref a1, .ref a3, .ref a5, .ref a8])
    have z9 : Same J8 (upd J8 a9 (.lst [.str x, .ref a1, .ref a3, .ref a5, .ref a8])) := Same.new n9
    generalize upd J8 a9 (.lst [.str x, .ref a1, .ref a3, .ref a5, .ref a8]) = J9 at f9 z9 ⊢
    have y8 := z9
    have y7 := z8.trans y8
    have y6 := z7.trans y7
    have y5 := z6.trans y6
    have y4 := z5.trans y5
    have y3 := z4.trans y4
    have y2 := z3.trans y3
    have y1 := z2.trans y2
    have gg : ∀ t : K86.T, (∀ u ∈ t.row, u = x ∨ u = y) → AllGood t := fun t h u hu => by
      rcases h u hu with rfl | rfl
      · exact gx
      · exact gy
    have tn : ∀ v ∈ [V.str x, .ref a1, .ref a3, .ref a5, .ref a8], Tn J9 v := by
      intro v hv
      rcases List.mem_cons.mp hv with rfl | hv
      · exact ⟨.leaf x, rfl, gg _ (by simp [K86.T.row]), by simp [K86.T.row]⟩
      rcases List.mem_cons.mp hv with rfl | hv
      · exact ⟨.node (.leaf x) (.leaf y), ⟨a1, _, _, rfl, y1 _ _ f1, rfl, rfl⟩, gg _ (by simp [K86.T.row]), by simp [K86.T.row]⟩
      rcases List.mem_cons.mp hv with rfl | hv
      · exact ⟨.node (.node (.leaf x) (.leaf y)) (.leaf x), ⟨a3, _, _, rfl, y3 _ _ f3, ⟨a2, _, _, rfl, y2 _ _ f2, rfl, rfl⟩, rfl⟩, gg _ (by simp [K86.T.row]), by simp [K86.T.row]⟩
      rcases List.mem_cons.mp hv with rfl | hv
      · exact ⟨.node (.leaf x) (.node (.leaf y) (.leaf x)), ⟨a5, _, _, rfl, y5 _ _ f5, rfl, a4, _, _, rfl, y4 _ _ f4, rfl, rfl⟩, gg _ (by simp [K86.T.row]), by simp [K86.T.row]⟩
      rw [List.mem_singleton.mp hv]
      exact ⟨.node (.node (.leaf x) (.leaf y)) (.node (.leaf y) (.leaf x)), ⟨a8, _, _, rfl, y8 _ _ f8, ⟨a6, _, _, rfl, y6 _ _ f6, rfl, rfl⟩, a7, _, _, rfl, y7 _ _ f7, rfl, rfl⟩, gg _ (by simp [K86.T.row]), by simp [K86.T.row]⟩
    clear f1 f2 f3 f4 f5 f6 f7 f8 z1 z2 z3 z4 z5 z6 z7 z8 z9 y1 y2 y3 y4 y5 y6 y7 y8 n1 n2 n3 n4 n5 n6 n7 n8 n9
    refine ⟨_, rfl, a9, rfl, ⟨_, SqL.of f9⟩, for_list (K := K) (a := a9) (xs := [.str x, .ref a1, .ref a3, .ref a5, .ref a8]) (fun j σ H6 => ∃ (o5 o6 o7 : Option V), σ = [some (.ref a), some (.ref b), some (.str x), some (.str y), some (.ref a9), o5, o6, o7] ∧ Same J9 H6)
      ⟨none, none, none, rfl, Same.refl _⟩ (fun j σ H6 _ ⟨_, _, _, _, s6⟩ => SqL.of (s6 _ _ f9)) ?_ ?_⟩
    · rintro j v σ H6 hv ⟨q5, q6, q7, rfl, s6⟩
      obtain ⟨t, ht, gt, rl⟩ := (tn v (List.mem_of_getElem? hv)).same s6
      have dp := t.depth_row
      have xl := tx_len t gt
      refine ⟨_, rfl, v, t, rfl, ht, by omega, by omega, fun z ez => ?_⟩
      have zl := cps_len z
      rw [ez] at zl
      refine ⟨z, rfl, by omega, fun p2 ys H7 hp2 hys s7 => ?_⟩
      refine ⟨p2, rfl, ⟨_, SqL.of hp2⟩, for_list (K := K) (a := p2) (xs := ys.map V.str) (fun i σ H8 => ∃ (o6 o7 : Option V), σ = [some (.ref a), some (.ref b), some (.str x), some (.str y), some (.ref a9), some v, o6, o7] ∧ Same H7 H8)
        ⟨_, _, rfl, Same.refl _⟩ (fun i σ H8 _ ⟨_, _, _, s8⟩ => SqL.of (s8 _ _ hp2)) ?_ ?_⟩
      · rintro i yv σ H8 hyv ⟨o6, o7, rfl, s8⟩
        rw [List.getElem?_map] at hyv
        cases ey : ys[i]? with
        | none =>
          rw [ey] at hyv
          cases hyv
        | some u =>
          rw [ey] at hyv
          cases hyv
          have ul := hys u (List.mem_of_getElem? ey)
          refine ⟨_, rfl, u, rfl, by omega, by omega, fun t' et' v' H10 t10 s10 => ?_, fun en H10 s10 => ?_⟩
          · obtain ⟨gt', ey'⟩ := readOf_some.mp et'
            have x' : (tx t').length ≤ 142 := by
              rw [← ey', ← cps_len]
              omega
            have d' := K86.T.depth_tx t' gt'
            have w' := K86.T.row_tx t' gt'
            have sz := t'.size_row
            have ft := Fit.one (tree_fit t' gt')
            refine ⟨_, rfl, u, rfl, by omega, fun t2 e2 p3 v2 H11 hp3 t11 s11 => ?_, fun en => ?_⟩
            · have ett : t2 = t' := Option.some.inj (e2.symm.trans et')
              subst ett
              refine ⟨.ref p3, .list [t2.data], rfl, (DatAt.lst hp3 (.cons t11.dat .nil)).dp, ft.shaped (by omega), ft.sho, ft.short (by omega), ?_⟩
              refine ⟨_, rfl, rfl, _, rfl, ?_⟩
              rw [decide_eq_false (TreeAt.ne t10)]
              refine iteF ?_
              refine ⟨_, rfl, (by show 1 ≤ sizeLine; decide), fun q hq => ?_⟩
              refine ⟨.ref q, .list [t2.data], rfl, (DatAt.lst upd_same (.cons ((t10.same s11).new hq).dat .nil)).dp, ft.shaped (by omega), ft.sho, ft.short (by omega), rfl, _, rfl, ?_⟩
              refine iteNS rfl ?_
              exact ⟨_, _, rfl, s8.trans (s10.trans (s11.trans (Same.new (o := .lst [v']) hq)))⟩
            · rw [et'] at en
              cases en
          · refine ⟨_, rfl, u, rfl, by omega, fun t2 e2 => ?_, fun _ p3 H11 hp3 s11 => ?_⟩
            · rw [en] at e2
              cases e2
            · refine ⟨.ref p3, .list [], rfl, (DatAt.lst hp3 .nil).dp, by decide +kernel, by decide +kernel, by decide +kernel, ?_⟩
              refine ⟨_, rfl, rfl, _, rfl, ?_⟩
              refine iteT ?_
              refine ⟨(by show 0 ≤ sizeLine; decide), fun q hq => ?_⟩
              refine ⟨.ref q, .list [], rfl, (DatAt.lst upd_same .nil).dp, by decide +kernel, by decide +kernel, by decide +kernel, rfl, _, rfl, ?_⟩
              refine iteNS rfl ?_
              exact ⟨_, _, rfl, s8.trans (s10.trans (s11.trans (Same.new (o := .lst []) hq)))⟩
      · rintro σ H8 ⟨o6, o7, rfl, s8⟩
        exact ⟨_, _, _, rfl, s6.trans (s7.trans s8)⟩
    · rintro σ H6 ⟨q5, q6, q7, rfl, s6⟩
      exact ⟨_, rfl, _, rfl, x, y, rfl, gx, gy, fun H' => k H'⟩
end
end K86
namespace K86
open PySem PySem.Spec PyProof.Rows L2 Vr
theorem all_mk {P : Program} {w : World} {K : PySem.W.Frag} {h : Heap} {mg : Str → Option Value} {fa : Addr} (X : K.In h) (G : h.Ns mainGlobals mg) (hfa : mg "law" = some (.ref fa))
    {fNa : Addr} {odNa anNa : Option Addr} {slNa : Array (Option Value)} {ocNa kVNa dcNa pmNa cdNa ctNa : Value}
    (aNa : PySem.W.nsIn K mainGlobals "is_name" = some (some (.ref fNa)))
    (lNa : K.lookup fNa = some ⟨ocNa, odNa, .func (PySem.W.fnOf "is_name" "is_name" (defArgs sName) (defBody sName) (defScope sName) .none kVNa dcNa pmNa anNa cdNa ctNa), slNa⟩)
    (cNa : PySem.W.codeIn K cdNa "is_name" = true) (kNa : PySem.W.keepIn K (.ref fNa) = true)
    {fIt : Addr} {odIt anIt : Option Addr} {slIt : Array (Option Value)} {ocIt kVIt dcIt pmIt cdIt ctIt : Value}
    (aIt : PySem.W.nsIn K mainGlobals "is_tree" = some (some (.ref fIt)))
    (lIt : K.lookup fIt = some ⟨ocIt, odIt, .func (PySem.W.fnOf "is_tree" "is_tree" (defArgs sIsTree) (defBody sIsTree) (defScope sIsTree) .none kVIt dcIt pmIt anIt cdIt ctIt), slIt⟩)
    (cIt : PySem.W.codeIn K cdIt "is_tree" = true) (kIt : PySem.W.keepIn K (.ref fIt) = true)
    {fSh : Addr} {odSh anSh : Option Addr} {slSh : Array (Option Value)} {ocSh kVSh dcSh pmSh cdSh ctSh : Value}
    (aSh : PySem.W.nsIn K mainGlobals "show_tree" = some (some (.ref fSh)))
    (lSh : K.lookup fSh = some ⟨ocSh, odSh, .func (PySem.W.fnOf "show_tree" "show_tree" (defArgs sShow) (defBody sShow) (defScope sShow) .none kVSh dcSh pmSh anSh cdSh ctSh), slSh⟩)
    (cSh : PySem.W.codeIn K cdSh "show_tree" = true) (kSh : PySem.W.keepIn K (.ref fSh) = true)
    {fRd : Addr} {odRd anRd : Option Addr} {slRd : Array (Option Value)} {ocRd kVRd dcRd pmRd cdRd ctRd : Value}
    (aRd : PySem.W.nsIn K mainGlobals "read_tree" = some (some (.ref fRd)))
    (lRd : K.lookup fRd = some ⟨ocRd, odRd, .func (PySem.W.fnOf "read_tree" "read_tree" (defArgs sRead) (defBody sRead) (defScope sRead) .none kVRd dcRd pmRd anRd cdRd ctRd), slRd⟩)
    (cRd : PySem.W.codeIn K cdRd "read_tree" = true) (kRd : PySem.W.keepIn K (.ref fRd) = true)
    {fLo : Addr} {odLo anLo : Option Addr} {slLo : Array (Option Value)} {ocLo kVLo dcLo pmLo cdLo ctLo : Value}
    (aLo : PySem.W.nsIn K mainGlobals "_read_loosely" = some (some (.ref fLo)))
    (lLo : K.lookup fLo = some ⟨ocLo, odLo, .func (PySem.W.fnOf "_read_loosely" "_read_loosely" (defArgs sLoose) (defBody sLoose) (defScope sLoose) .none kVLo dcLo pmLo anLo cdLo ctLo), slLo⟩)
    (cLo : PySem.W.codeIn K cdLo "_read_loosely" = true) (kLo : PySem.W.keepIn K (.ref fLo) = true)
    {fMa : Addr} {odMa anMa : Option Addr} {slMa : Array (Option Value)} {ocMa kVMa dcMa pmMa cdMa ctMa : Value}
    (aMa : PySem.W.nsIn K mainGlobals "_may_close" = some (some (.ref fMa)))
    (lMa : K.lookup fMa = some ⟨ocMa, odMa, .func (PySem.W.fnOf "_may_close" "_may_close" (defArgs sMay) (defBody sMay) (defScope sMay) .none kVMa dcMa pmMa anMa cdMa ctMa), slMa⟩)
    (cMa : PySem.W.codeIn K cdMa "_may_close" = true) (kMa : PySem.W.keepIn K (.ref fMa) = true)
    {fBa : Addr} {odBa anBa : Option Addr} {slBa : Array (Option Value)} {ocBa kVBa dcBa pmBa cdBa ctBa : Value}
    (aBa : PySem.W.nsIn K mainGlobals "_law_bag" = some (some (.ref fBa)))
    (lBa : K.lookup fBa = some ⟨ocBa, odBa, .func (PySem.W.fnOf "_law_bag" "_law_bag" (defArgs sBag) (defBody sBag) (defScope sBag) .none kVBa dcBa pmBa anBa cdBa ctBa), slBa⟩)
    (cBa : PySem.W.codeIn K cdBa "_law_bag" = true) (kBa : PySem.W.keepIn K (.ref fBa) = true)
    {fTa : Addr} {odTa anTa : Option Addr} {slTa : Array (Option Value)} {ocTa kVTa dcTa pmTa cdTa ctTa : Value}
    (aTa : PySem.W.nsIn K mainGlobals "_law_take" = some (some (.ref fTa)))
    (lTa : K.lookup fTa = some ⟨ocTa, odTa, .func (PySem.W.fnOf "_law_take" "_law_take" (defArgs sTake) (defBody sTake) (defScope sTake) .none kVTa dcTa pmTa anTa cdTa ctTa), slTa⟩)
    (cTa : PySem.W.codeIn K cdTa "_law_take" = true) (kTa : PySem.W.keepIn K (.ref fTa) = true)
    {fNm : Addr} {odNm anNm : Option Addr} {slNm : Array (Option Value)} {ocNm kVNm dcNm pmNm cdNm ctNm : Value}
    (aNm : PySem.W.nsIn K mainGlobals "_law_names" = some (some (.ref fNm)))
    (lNm : K.lookup fNm = some ⟨ocNm, odNm, .func (PySem.W.fnOf "_law_names" "_law_names" (defArgs sNames) (defBody sNames) (defScope sNames) .none kVNm dcNm pmNm anNm cdNm ctNm), slNm⟩)
    (cNm : PySem.W.codeIn K cdNm "_law_names" = true) (kNm : PySem.W.keepIn K (.ref fNm) = true)
    {fTx : Addr} {odTx anTx : Option Addr} {slTx : Array (Option Value)} {ocTx kVTx dcTx pmTx cdTx ctTx : Value}
    (aTx : PySem.W.nsIn K mainGlobals "_law_text" = some (some (.ref fTx)))
    (lTx : K.lookup fTx = some ⟨ocTx, odTx, .func (PySem.W.fnOf "_law_text" "_law_text" (defArgs sText) (defBody sText) (defScope sText) .none kVTx dcTx pmTx anTx cdTx ctTx), slTx⟩)
    (cTx : PySem.W.codeIn K cdTx "_law_text" = true) (kTx : PySem.W.keepIn K (.ref fTx) = true)
    {fLr : Addr} {odLr anLr : Option Addr} {slLr : Array (Option Value)} {ocLr kVLr dcLr pmLr cdLr ctLr : Value}
    (aLr : PySem.W.nsIn K mainGlobals "_law_read" = some (some (.ref fLr)))
    (lLr : K.lookup fLr = some ⟨ocLr, odLr, .func (PySem.W.fnOf "_law_read" "_law_read" (defArgs sLRead) (defBody sLRead) (defScope sLRead) .none kVLr dcLr pmLr anLr cdLr ctLr), slLr⟩)
    (cLr : PySem.W.codeIn K cdLr "_law_read" = true) (kLr : PySem.W.keepIn K (.ref fLr) = true)
    {fDu : Addr} {odDu anDu : Option Addr} {slDu : Array (Option Value)} {ocDu kVDu dcDu pmDu cdDu ctDu : Value}
    (aDu : PySem.W.nsIn K mainGlobals "_law_due" = some (some (.ref fDu)))
    (lDu : K.lookup fDu = some ⟨ocDu, odDu, .func (PySem.W.fnOf "_law_due" "_law_due" (defArgs sDue) (defBody sDue) (defScope sDue) .none kVDu dcDu pmDu anDu cdDu ctDu), slDu⟩)
    (cDu : PySem.W.codeIn K cdDu "_law_due" = true) (kDu : PySem.W.keepIn K (.ref fDu) = true)
    {fNe : Addr} {odNe anNe : Option Addr} {slNe : Array (Option Value)} {ocNe kVNe dcNe pmNe cdNe ctNe : Value}
    (aNe : PySem.W.nsIn K mainGlobals "_law_near" = some (some (.ref fNe)))
    (lNe : K.lookup fNe = some ⟨ocNe, odNe, .func (PySem.W.fnOf "_law_near" "_law_near" (defArgs sNear) (defBody sNear) (defScope sNear) .none kVNe dcNe pmNe anNe cdNe ctNe), slNe⟩)
    (cNe : PySem.W.codeIn K cdNe "_law_near" = true) (kNe : PySem.W.keepIn K (.ref fNe) = true)
    {fTo : Addr} {odTo anTo : Option Addr} {slTo : Array (Option Value)} {ocTo kVTo dcTo pmTo cdTo ctTo : Value}
    (aTo : PySem.W.nsIn K mainGlobals "_law_told" = some (some (.ref fTo)))
    (lTo : K.lookup fTo = some ⟨ocTo, odTo, .func (PySem.W.fnOf "_law_told" "_law_told" (defArgs sTold) (defBody sTold) (defScope sTold) .none kVTo dcTo pmTo anTo cdTo ctTo), slTo⟩)
    (cTo : PySem.W.codeIn K cdTo "_law_told" = true) (kTo : PySem.W.keepIn K (.ref fTo) = true)
    {fWo : Addr} {odWo anWo : Option Addr} {slWo : Array (Option Value)} {ocWo kVWo dcWo pmWo cdWo ctWo : Value}
    (aWo : PySem.W.nsIn K mainGlobals "_law_words_right" = some (some (.ref fWo)))
    (lWo : K.lookup fWo = some ⟨ocWo, odWo, .func (PySem.W.fnOf "_law_words_right" "_law_words_right" (defArgs sWords) (defBody sWords) (defScope sWords) .none kVWo dcWo pmWo anWo cdWo ctWo), slWo⟩)
    (cWo : PySem.W.codeIn K cdWo "_law_words_right" = true) (kWo : PySem.W.keepIn K (.ref fWo) = true)
    {fLa : Addr} {odLa anLa : Option Addr} {slLa : Array (Option Value)} {ocLa kVLa dcLa pmLa cdLa ctLa : Value}
    (aLa : PySem.W.nsIn K mainGlobals "law" = some (some (.ref fLa)))
    (lLa : K.lookup fLa = some ⟨ocLa, odLa, .func (PySem.W.fnOf "law" "law" (defArgs sLaw) (defBody sLaw) (defScope sLaw) .none kVLa dcLa pmLa anLa cdLa ctLa), slLa⟩)
    (cLa : PySem.W.codeIn K cdLa "law" = true) (kLa : PySem.W.keepIn K (.ref fLa) = true)
    (z_len : PySem.W.nsIn K mainGlobals "len" = some none)
    (z_range : PySem.W.nsIn K mainGlobals "range" = some none)
    (z_repr : PySem.W.nsIn K mainGlobals "repr" = some none)
    (z_isinstance : PySem.W.nsIn K mainGlobals "isinstance" = some none)
    (z_tuple : PySem.W.nsIn K mainGlobals "tuple" = some none)
    (z_str : PySem.W.nsIn K mainGlobals "str" = some none)
    (z_all : PySem.W.nsIn K mainGlobals "all" = some none)
    (z_abs : PySem.W.nsIn K mainGlobals "abs" = some none)
    (z_int : PySem.W.nsIn K mainGlobals "int" = some none)
    (z_sorted : PySem.W.nsIn K mainGlobals "sorted" = some none)
    {C fI cda cc N : Addr} {nm q file : Str} {bs : List Value} {sn : List Str} {sub : List Value} {ab : Bool} {col : Option Bool} {dd odI anI cld cdd : Option Addr} {m0 m1 m2 m3 m5 : Option Value}
    {slI csl ccs : Array (Option Value)} {vs : Array Value} {ocI dcI pmI ctI cl ccl : Value} {tf : Tok}
    (eC : PySem.W.nsIn K mainGlobals "NoText" = some (some (.ref C)))
    (xC : K.lookup C = some (excClassObj nm q C N bs [.type "ValueError", .type "Exception", .type "BaseException", .type "object"] true sn sub ab col dd m0 m1 m2 m3 m5 "ValueError.__new__"))
    (sa : PySem.W.findIn K (.ref C) "__setattr__" = some (some (.builtin "object.__setattr__")))
    (ga : PySem.W.findIn K (.ref C) "__getattribute__" = some (some (.builtin "BaseException.__getattribute__")))
    (gg : PySem.W.findIn K (.ref C) "__getattr__" = some none)
    (no : PySem.W.findIn K (.ref C) "position" = some none)
    (ic : PySem.W.findIn K (.ref C) "__init__" = some (some (.ref fI)))
    (tc : PySem.W.typeIn K (.ref fI) = some (.type "function"))
    (kc : PySem.W.keepIn K (.ref C) = true)
    (xb : PySem.W.subIn K (.ref C) (.type "BaseException") = some true)
    (ty : PySem.W.typeIn K (.ref C) = some (.type "type"))
    (ve : PySem.W.subIn K (.ref C) (.type "ValueError") = some true)
    (sC : PySem.W.subIn K (.ref C) (.ref C) = some true)
    (me : PySem.W.mroIn K C (.ref C) = some true)
    (tp : PySem.W.nsIn K cStatics "thirdparty.any" = some none)
    (su : PySem.W.nsIn K mainGlobals "super" = some none)
    (pt : (P.main.scope.names.lookup ("super" : Str)).isSome = false)
    (lI : K.lookup fI = some ⟨ocI, odI, .func (PySem.W.ksFn "__init__" "NoText.__init__" (VN.nA "position" ⟨4, 17, 4, 21⟩ ⟨4, 23, 4, 31⟩) (VN.nB "position" "not such a text" ⟨5, 8, 5, 13⟩ ⟨5, 8, 5, 15⟩ ⟨5, 8, 5, 24⟩ ⟨5, 25, 5, 42⟩ ⟨5, 8, 5, 43⟩ ⟨5, 8, 5, 43⟩ ⟨6, 8, 6, 12⟩ ⟨6, 8, 6, 21⟩ ⟨6, 24, 6, 32⟩ ⟨6, 8, 6, 32⟩) (VN.nS "position") .none .none dcI pmI anI (.ref cda) ctI cc), slI⟩)
    (cI : PySem.W.codeIn K (.ref cda) "NoText.__init__" = true)
    (lc : K.lookup cc = some ⟨cl, cld, .cell (some (.ref C)), csl⟩)
    (ld : K.lookup cda = some ⟨ccl, cdd, .fields vs, ccs⟩)
    (lv : vs[2]? = some (.str file tf))
    (lf : ((P.main.file : Str) == file) = true)
    (hd : PySem.W.hasDictIn K C = true)
    {aK : Addr} {dK : Option Addr} {nK : Nat} {slK : Array (Option Value)} {x1 x2 x3 x4 : Tok}
    (mK : PySem.W.nsIn K mainGlobals "_TAKEN" = some (some (.ref aK)))
    (lK : K.lookup aK = some ⟨.type "tuple", dK, .seq #[.str "self" x1, .str "other" x2, .str "super" x3, .str "raises" x4] nK, slK⟩) :
    ∃ fd : FuncData, (∀ (s : Shared) (u : Value), BindsTo s fd ⟨[u], []⟩ [("_law_script", u)]) ∧
      ∀ base : Heap, K.In base → base.Ns mainGlobals mg → GOk P w K mg base CX0 153 fa fd ["_law_script"] (spLaw K) := by
  have e := hfa.symm.trans (PySem.W.mg_of X G aLa)
  cases e
  have FNa := fun_mk (st := sName) lNa cNa kNa
  have bNa := FNa.binds (ps := ["value"]) fun _ _ _ _ _ _ us hl => match us, hl with | [_], _ => rfl
  have mNa := PySem.W.mg_of X G aNa
  have FIt := fun_mk (st := sIsTree) lIt cIt kIt
  have bIt := FIt.binds (ps := ["value"]) fun _ _ _ _ _ _ us hl => match us, hl with | [_], _ => rfl
  have mIt := PySem.W.mg_of X G aIt
  have FSh := fun_mk (st := sShow) lSh cSh kSh
  have bSh := FSh.binds (ps := ["tree"]) fun _ _ _ _ _ _ us hl => match us, hl with | [_], _ => rfl
  have mSh := PySem.W.mg_of X G aSh
  have FRd := fun_mk (st := sRead) lRd cRd kRd
  have bRd := FRd.binds (ps := ["text"]) fun _ _ _ _ _ _ us hl => match us, hl with | [_], _ => rfl
  have mRd := PySem.W.mg_of X G aRd
  have FLo := fun_mk (st := sLoose) lLo cLo kLo
  have bLo := FLo.binds (ps := ["text"]) fun _ _ _ _ _ _ us hl => match us, hl with | [_], _ => rfl
  have mLo := PySem.W.mg_of X G aLo
  have FMa := fun_mk (st := sMay) lMa cMa kMa
  have bMa := FMa.binds (ps := ["done"]) fun _ _ _ _ _ _ us hl => match us, hl with | [_], _ => rfl
  have mMa := PySem.W.mg_of X G aMa
  have FBa := fun_mk (st := sBag) lBa cBa kBa
  have bBa := FBa.binds (ps := ["_law_script", "_law_at"]) fun _ _ _ _ _ _ us hl => match us, hl with | [_, _], _ => rfl
  have mBa := PySem.W.mg_of X G aBa
  have FTa := fun_mk (st := sTake) lTa cTa kTa
  have bTa := FTa.binds (ps := ["_law_bag_here", "_law_many"]) fun _ _ _ _ _ _ us hl => match us, hl with | [_, _], _ => rfl
  have mTa := PySem.W.mg_of X G aTa
  have FNm := fun_mk (st := sNames) lNm cNm kNm
  have bNm := FNm.binds (ps := ["_law_bag_here", "_law_many"]) fun _ _ _ _ _ _ us hl => match us, hl with | [_, _], _ => rfl
  have mNm := PySem.W.mg_of X G aNm
  have FTx := fun_mk (st := sText) lTx cTx kTx
  have bTx := FTx.binds (ps := ["_law_tree"]) fun _ _ _ _ _ _ us hl => match us, hl with | [_], _ => rfl
  have mTx := PySem.W.mg_of X G aTx
  have FLr := fun_mk (st := sLRead) lLr cLr kLr
  have bLr := FLr.binds (ps := ["_law_text_here", "_law_at"]) fun _ _ _ _ _ _ us hl => match us, hl with | [_, _], _ => rfl
  have mLr := PySem.W.mg_of X G aLr
  have FDu := fun_mk (st := sDue) lDu cDu kDu
  have bDu := FDu.binds (ps := ["_law_text_here"]) fun _ _ _ _ _ _ us hl => match us, hl with | [_], _ => rfl
  have mDu := PySem.W.mg_of X G aDu
  have FNe := fun_mk (st := sNear) lNe cNe kNe
  have bNe := FNe.binds (ps := ["_law_text_here"]) fun _ _ _ _ _ _ us hl => match us, hl with | [_], _ => rfl
  have mNe := PySem.W.mg_of X G aNe
  have FTo := fun_mk (st := sTold) lTo cTo kTo
  have bTo := FTo.binds (ps := ["_law_text_here"]) fun _ _ _ _ _ _ us hl => match us, hl with | [_], _ => rfl
  have mTo := PySem.W.mg_of X G aTo
  have FWo := fun_mk (st := sWords) lWo cWo kWo
  have bWo := FWo.binds (ps := ["_law_one", "_law_other"]) fun _ _ _ _ _ _ us hl => match us, hl with | [_, _], _ => rfl
  have mWo := PySem.W.mg_of X G aWo
  have FLa := fun_mk (st := sLaw) lLa cLa kLa
  have g_len := PySem.W.mg_none_of X G z_len
  have g_range := PySem.W.mg_none_of X G z_range
  have g_repr := PySem.W.mg_none_of X G z_repr
  have g_isinstance := PySem.W.mg_none_of X G z_isinstance
  have g_tuple := PySem.W.mg_none_of X G z_tuple
  have g_str := PySem.W.mg_none_of X G z_str
  have g_all := PySem.W.mg_none_of X G z_all
  have g_abs := PySem.W.mg_none_of X G z_abs
  have g_int := PySem.W.mg_none_of X G z_int
  have g_sorted := PySem.W.mg_none_of X G z_sorted
  have mTak := PySem.W.mg_of X G mK
  have hTak : ∀ H, SqT K H aK (taken.map V.str) := fun H => Or.inr ⟨_, _, _, lK, rfl, rfl, (by show 4 ≤ sizeLine; decide), .cons ⟨_, rfl⟩ (.cons ⟨_, rfl⟩ (.cons ⟨_, rfl⟩ (.cons ⟨_, rfl⟩ .nil)))⟩
  have TN : VN.Txt P K mg C fI "NoText.__init__" (Str.ofString "position") (Str.ofString "not such a text") :=
    { cls := ⟨nm, q, N, bs, _, sn, sub, ab, col, dd, m0, m1, m2, m3, m5, xC, by decide +kernel⟩, sa := sa, noN := no, iC := ic, tC := tc, kC := kc, exC := xb, tyC := ty, veC := ve, up := VN.up_of xC, inC := VN.in_of xC, me := me, tp := tp, sup := su, top := pt,
      bd := fun _ _ _ _ _ _ _ _ _ _ _ => by rfl, lk := ⟨by rfl, by rfl, by rfl, by rfl⟩, sf := by decide +kernel, db := by decide +kernel,
      fn := ⟨ocI, odI, dcI, pmI, anI, cda, cc, ctI, slI, _, _, _, _, _, _, _, _, _, _, _, _, lI, cI, by decide +kernel, ⟨cl, cld, csl, lc⟩, ⟨ccl, cdd, vs, ccs, file, tf, ld, lv, lf⟩⟩ }
  refine ⟨PySem.W.fnOf "law" "law" (defArgs sLaw) (defBody sLaw) (defScope sLaw) .none kVLa dcLa pmLa anLa cdLa ctLa, fun s u => .of_eq rfl, fun base _ _ => ?_⟩
  have GT := ok_take (P := P) (w := w) (mg := mg) (base := base) FTa
  have GB := ok_bag (P := P) (w := w) (mg := mg) (base := base) FBa g_len g_abs g_int
  have GN := ok_names (P := P) (w := w) (mg := mg) (base := base) FNm GT bTa mTa kTa g_range g_sorted
  have GNa := ok_name (P := P) (w := w) (mg := mg) (base := base) FNa g_isinstance g_str g_len g_all mTak hTak
  have GIt := ok_isTree (P := P) (w := w) (mg := mg) (base := base) FIt GNa bNa mNa kNa g_isinstance g_tuple g_len
  have GSh := ok_show (P := P) (w := w) (mg := mg) (base := base) FSh g_isinstance g_str
  have GMa := ok_may (P := P) (w := w) (mg := mg) (base := base) FMa g_len
  have GLo := ok_loose (P := P) (w := w) (mg := mg) (base := base) FLo GMa bMa mMa kMa GNa bNa mNa kNa g_len
  have GRd := ok_read (P := P) (w := w) (mg := mg) (base := base) FRd GLo bLo mLo kLo GSh bSh mSh kSh g_isinstance g_str TN (PySem.W.mg_of X G eC)
  have GTx := ok_text (P := P) (w := w) (mg := mg) (base := base) FTx bTx mTx g_isinstance g_tuple 12
  have GLr := ok_lread (P := P) (w := w) (mg := mg) (base := base) FLr bLr mLr g_len 150
  have GDu := ok_due (P := P) (w := w) (mg := mg) (base := base) FDu GLr bLr mLr kLr g_len
  have GNe := ok_near (P := P) (w := w) (mg := mg) (base := base) FNe g_len g_range
  have GTo := ok_told (P := P) (w := w) (mg := mg) (base := base) FTo GRd bRd mRd kRd TN (PySem.W.mg_of X G eC) ⟨ga, gg, xb, hd⟩ (PySem.W.exm_ref xb hd ty sC) g_repr
  have GWo := ok_words (P := P) (w := w) (mg := mg) (base := base) FWo GTo bTo mTo kTo GTx bTx mTx kTx GIt bIt mIt kIt g_len g_repr g_int
  exact ok_law FLa ⟨_, _, _, _, _, _, _, _, _, _, _, _, _, _, GB, GN, GTx, GNe, GDu, GTo, GWo, bBa, bNm, bTx, bNe, bDu, bTo, bWo,
    mBa, mNm, mTx, mNe, mDu, mTo, mWo, kBa, kNm, kTx, kNe, kDu, kTo, kWo, g_repr⟩
end K86
open PySem PySem.W PyProof.Rows
set_option maxRecDepth 100000 in
set_option maxHeartbeats 0 in
theorem PySem.Challenge.cw_eitherside_k86_texts_near_trees_holds : PySem.Challenge.rw_eitherside_k86_texts_near_trees.Holds := by
  w_on; o_law; k_head; (case hw => w_witness2)
  k_fill
  refine Vr.end_of (l := PySem.Challenge.rw_eitherside_k86_texts_near_trees) (n := 63) (k := 153) (x := "_law_script") (sp := K86.spLaw) rfl (by decide) rfl ⟨rfl, by decide, by decide⟩ (fun w h Y => PySem.W.kIn_of Y) ?F (fun K H a ns hl _ hS => ⟨a, ns, rfl, hS, hl, fun _ => rfl⟩)
  case F =>
    intro w mg fa h KX G hmg
    refine' K86.all_mk KX G hmg ?aNa ?lNa ?cNa ?kNa ?aIt ?lIt ?cIt ?kIt ?aSh ?lSh ?cSh ?kSh ?aRd ?lRd ?cRd ?kRd ?aLo ?lLo ?cLo ?kLo ?aMa ?lMa ?cMa ?kMa ?aBa ?lBa ?cBa ?kBa ?aTa ?lTa ?cTa ?kTa ?aNm ?lNm ?cNm ?kNm ?aTx ?lTx ?cTx ?kTx ?aLr ?lLr ?cLr ?kLr ?aDu ?lDu ?cDu ?kDu ?aNe ?lNe ?cNe ?kNe ?aTo ?lTo ?cTo ?kTo ?aWo ?lWo ?cWo ?kWo ?aLa ?lLa ?cLa ?kLa ?z_len ?z_range ?z_repr ?z_isinstance ?z_tuple ?z_str ?z_all ?z_abs ?z_int ?z_sorted ?eC ?xC ?sa ?ga ?gg ?no ?ic ?tc ?kc ?xb ?ty ?ve ?sC ?me ?tp ?su ?pt ?lI ?cI ?lc ?ld ?lv ?lf ?hd ?mK ?lK
    (case aNa => k_is)
    (case lNa => k_is)
    (case cNa => k_is)
    (case kNa => k_is)
    (case aIt => k_is)
    (case lIt => k_is)
    (case cIt => k_is)
    (case kIt => k_is)
    (case aSh => k_is)
    (case lSh => k_is)
    (case cSh => k_is)
    (case kSh => k_is)
    (case aRd => k_is)
    (case lRd => k_is)
    (case cRd => k_is)
    (case kRd => k_is)
    (case aLo => k_is)
    (case lLo => k_is)
    (case cLo => k_is)
    (case kLo => k_is)
    (case aMa => k_is)
    (case lMa => k_is)
    (case cMa => k_is)
    (case kMa => k_is)
    (case aBa => k_is)
    (case lBa => k_is)
    (case cBa => k_is)
    (case kBa => k_is)
    (case aTa => k_is)
    (case lTa => k_is)
    (case cTa => k_is)
    (case kTa => k_is)
    (case aNm => k_is)
    (case lNm => k_is)
    (case cNm => k_is)
    (case kNm => k_is)
    (case aTx => k_is)
    (case lTx => k_is)
    (case cTx => k_is)
    (case kTx => k_is)
    (case aLr => k_is)
    (case lLr => k_is)
    (case cLr => k_is)
    (case kLr => k_is)
    (case aDu => k_is)
    (case lDu => k_is)
    (case cDu => k_is)
    (case kDu => k_is)
    (case aNe => k_is)
    (case lNe => k_is)
    (case cNe => k_is)
    (case kNe => k_is)
    (case aTo => k_is)
    (case lTo => k_is)
    (case cTo => k_is)
    (case kTo => k_is)
    (case aWo => k_is)
    (case lWo => k_is)
    (case cWo => k_is)
    (case kWo => k_is)
    (case aLa => k_is)
    (case lLa => k_is)
    (case cLa => k_is)
    (case kLa => k_is)
    (case z_len => k_is)
    (case z_range => k_is)
    (case z_repr => k_is)
    (case z_isinstance => k_is)
    (case z_tuple => k_is)
    (case z_str => k_is)
    (case z_all => k_is)
    (case z_abs => k_is)
    (case z_int => k_is)
    (case z_sorted => k_is)
    (case eC => k_is)
    (case xC => k_is)
    (case sa => k_is)
    (case ga => k_is)
    (case gg => k_is)
    (case no => k_is)
    (case ic => k_is)
    (case tc => k_is)
    (case kc => k_is)
    (case xb => k_is)
    (case ty => k_is)
    (case ve => k_is)
    (case sC => first | rfl | k_is)
    (case me => first | rfl | k_is)
    (case tp => k_is)
    (case su => k_is)
    (case pt => first | rfl | decide +kernel | k_is)
    (case lI => k_is)
    (case cI => k_is)
    (case lc => k_is)
    (case ld => k_is)
    (case lv => first | rfl | k_is)
    (case lf => first | rfl | decide +kernel | k_is)
    (case hd => k_is)
    (case mK => k_is)
    (case lK => k_is)
