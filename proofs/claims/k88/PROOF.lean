import PyProof.Rows.All
import Wide.All
import OpenK.AllK
import Wide.FinOn
import HandS.ForMost
import HandS.IsInst
import HandS.Style
import PyProof.ReprRoads
import HandS.SetKeys
import HandS.Conv
import HandS.TupLen
import PyProof.EqKinds
import HandS.Walk
import HandS.TupLe
import PyProof.StrLawsRepr
import HandS.FStrTup
import HandS.Codes
import HandS.TryOnly
import HandS.TupMul
import PySem.Challenge.RW_eitherside_k88_turns_and_the_same_elsewh
set_option Elab.async false
set_option linter.all false
set_option maxRecDepth 100000
set_option maxHeartbeats 8000000
/-! repr of data, where no repr is under way around the def: the promise of a def is asked only at such arounds. -/
namespace Vr
open PySem PySem.Spec PyProof.Rows L2
section
variable {X : Cx}
/-- repr(x), x any data without dicts -/
def rReprD (K : PySem.W.Frag) : List V → Hp → VK → Prop := fun xs H Q =>
  ∃ (x : V) (d : PyData), xs = [x] ∧ Dp K H x d ∧ SeqAt.shaped d = true ∧ d.showable = true ∧ d.shown.length ≤ sizeLine ∧ Q (.str d.shown) H
theorem call_reprD {k : Nat} (hg : X.A.guards = some []) (hr : Room k X.A) : CallR X (.builtin "repr") (rReprD X.K) := by
  intro pins s σ H xs us Q I r h
  obtain ⟨x, d, rfl, hd, hs, hw, hz, q⟩ := h
  obtain ⟨u, rfl, ru⟩ := vals1 r
  have nd : d.hasDict = false := PyData.hasDict_of_canLay d (SeqAt.canLay_of_shaped hs)
  have dd := SeqAt.depth_of_shaped hs
  have un := hr.un
  cases hd with
  | non =>
    cases (show u = Value.none from ru)
    exact PySem.P.repr_of_none ⟨.str _, H, I.tok _, ⟨_, rfl⟩, q⟩
  | bl b =>
    cases (show u = Value.bool b from ru)
    exact PySem.P.repr_of_bool ⟨.str _, H, I.tok _, ⟨_, rfl⟩, q⟩
  | int i =>
    obtain ⟨t, e⟩ := (show ∃ t, u = Value.int i t from ru)
    subst e
    exact PySem.P.repr_of_int (by simpa [PyData.showable] using hw) ⟨.str _, H, I.tok _, ⟨_, rfl⟩, q⟩
  | str y =>
    obtain ⟨t, e⟩ := (show ∃ t, u = Value.str y t from ru)
    subst e
    exact PySem.P.repr_of_str ⟨.str _, H, I.tok _, ⟨_, rfl⟩, q⟩ hz
  | @lst a ys ds h1 h2 =>
    cases (show u = Value.ref a from ru)
    obtain ⟨as, rd⟩ := Dp.reads I _ _ _ (Dp.lst h1 h2) (show RelV (.ref a) (.ref a) from rfl)
    refine repr_of_reads' rd hw (fun z => ?_) hg (by omega) (fun _ _ e => e) (fun h' t tk hk => ?_) hz
    · rw [nd] at z
      cases z
    · exact ⟨.str _, H, I.kept hk, ⟨t, rfl⟩, q⟩
  | @tup a ys ds h1 h2 =>
    cases (show u = Value.ref a from ru)
    obtain ⟨as, rd⟩ := Dp.reads I _ _ _ (Dp.tup h1 h2) (show RelV (.ref a) (.ref a) from rfl)
    refine repr_of_reads' rd hw (fun z => ?_) hg (by omega) (fun _ _ e => e) (fun h' t tk hk => ?_) hz
    · rw [nd] at z
      cases z
    · exact ⟨.str _, H, I.kept hk, ⟨t, rfl⟩, q⟩
end

/-- a def's promise, asked only where no repr is under way -/
structure GOk (P : Program) (w : World) (K : PySem.W.Frag) (mg : Str → Option Value)
    (base : Heap) (CX : CXT) (k : Nat) (f : Addr) (fd : FuncData) (ps : List Str) (sp : Sp) : Prop where
  len : ∀ vs H Q E, sp vs H Q E → vs.length = ps.length
  run : ∀ (A : Around) (outer : List Env) (s : Shared) (H : Hp) (args : Args) (us : List Value) (vs : List V) (Q : VK) (E : XK),
    A.guards = some [] → Room k A → Env0 P w K mg base A outer s H → BindsTo s fd args (ps.zip us) → Vals vs us → sp vs H Q E →
      codeAny (model P w) A (.call (.ref f) args) (CR CX outer P w H s Q E) s

section
variable {P : Program} {w : World} {K : PySem.W.Frag} {mg : Str → Option Value} {base : Heap} {CX : CXT} {k : Nat}
theorem GOk.of {f : Addr} {fd : FuncData} {ps : List Str} {sp : Sp} (F : FnOk P w K mg base CX k f fd ps sp) : GOk P w K mg base CX k f fd ps sp :=
  { len := F.len, run := fun A outer s H args us vs Q E _ => F.run A outer s H args us vs Q E }

/-- the body's derivation may use that no repr is under way -/
theorem gok_of {f : Addr} {name qual : Str} {params : Arguments} {body : List Stmt} {scope : Scope} {dV kV doc pm cdv ct oc : Value} {an od : Option Addr}
    {osl : Array (Option Value)} {N ps : List Str} {sp : Sp}
    (lk : K.lookup f = some ⟨oc, od, .func (PySem.W.fnOf name qual params body scope dV kV doc pm an cdv ct), osl⟩)
    (hcd : PySem.W.codeIn K cdv qual = true) (S : FnScope N ps scope) (len : ∀ vs H Q E, sp vs H Q E → vs.length = ps.length)
    (hbody : ∀ (A : Around) (outer : List Env) (s : Shared) (H : Hp) (vs : List V) (Q : VK) (E : XK), A.guards = some [] →
      Room k (A.deeper (envOfC qual scope s.heap.objs.size f cdv)) → sp vs H Q E →
      ∃ t, PSs (cxOf CX P w K mg base N qual scope f cdv A outer s H E) body t ∧ t { nx := fun _ H' => Q .non H', rt := Q } (start N vs) H) :
    GOk P w K mg base CX (k + 1) f (PySem.W.fnOf name qual params body scope dV kV doc pm an cdv ct) ps sp where
  len := len
  run := by
    intro A outer s H args us vs Q E gA room e0 bind rel prom
    have lenV := len vs H Q E prom
    have old : ∀ b o, base.get? b = some o → s.heap.get? b = some o := fun b o e => (e0.bs b o e).1
    have inK : K.In s.heap := e0.mod.kin.keeps old
    have nolim : s.heap.NoLimit := e0.mod.nolimit.keeps old
    refine codeAny_call_function room.depth (inK f _ lk) rfl S.co S.gen rfl (PySem.W.codeRec_of inK hcd) (bind _ _ _ _ ?_)
    refine wpAny_newFunctionEnv_cells S.kind ?_ ?_
    · intro ⟨n, v⟩ mem
      cases S.par n (List.of_mem_zip mem).1 with
      | inl q => exact Or.inl q
      | inr q => exact Or.inr ⟨q, PySem.W.cellsFrom_some _ _ _ (Or.inl q)⟩
    · intro env eenv s1 inCall
      cases eenv
      refine ⟨nolim.keeps inCall.toInCall.keep, codeAny_func ?_⟩
      obtain ⟨t, der, rd⟩ := hbody A outer s H vs Q E gA (room.deeper _) prom
      have start0 := inv_start (CX := CX) (E := E) S room.hd e0 lenV rel inCall
      refine wpAny_mono (der.run [] s1 (start N vs) H _ start0 rd) ?_ (fun _ _ x => x)
      intro flow s' done
      cases flow with
      | ret u =>
        obtain ⟨v, σ', H', J, rv, q⟩ := done
        exact ⟨v, H', J.os, J.bare, J.base, J.hok, rv, q⟩
      | next =>
        obtain ⟨σ', H', J, q⟩ := done
        exact ⟨V.non, H', J.os, J.bare, J.base, J.hok, rfl, q⟩
      | brk =>
        obtain ⟨_, _, _, q⟩ := done
        exact q.elim
      | cont =>
        obtain ⟨_, _, _, q⟩ := done
        exact q.elim
end
end Vr
namespace Vr
open PySem PySem.Spec PyProof.Rows L2
/-- the row's end, from a promise of the law's def that is asked where no repr is under way -/
theorem end_of {l : PySem.W.OpenLaw} {n k : Nat} {q : Program} {loose : List Str} {XP : (Str → Option Value) → Heap → Prop}
    {YP : World → Heap → Prop} {d : DefRec} {K : Params → PySem.W.Frag} {sp : PySem.W.Frag → Sp} {x : Str}
    (hn : l.most = some n) (small : n ≤ sizeLine) (nod : d.params.defaults = []) (room : Room k callerA)
    (inK : ∀ (w : World) (h : Heap), YP w h → (K w.params).In h)
    (F : ∀ (w : World) (mg : Str → Option Value) (fa : Addr) (h : Heap), (K w.params).In h → h.Ns mainGlobals mg → mg d.name = some (.ref fa) →
      ∃ fd : FuncData, (∀ (s : Shared) (u : Value), BindsTo s fd ⟨[u], []⟩ [(x, u)]) ∧
        ∀ base : Heap, (K w.params).In base → base.Ns mainGlobals mg → GOk l.prog w (K w.params) mg base CX0 k fa fd [x] (sp (K w.params)))
    (prom : ∀ (K : PySem.W.Frag) (H : Hp) (a : Addr) (ns : List Int), ns.length ≤ n → Only H → SqL K H a (ns.map V.int) →
      sp K [.ref a] H (fun v _ => v = .bl true) fun _ _ _ => False) :
    PySem.W.WalkO q loose XP YP l.row.toRowW d [] (fun f vs => PySem.call f vs) := by
  refine Att.attach_call hn nod ?_
  intro w s₀ s₁ mg mb fa o pm cd doc a vs ns G Y ho hd hcd hmg hobj hints hlen gens
  have KX := inK w _ Y
  obtain ⟨fd, hb, hF⟩ := F w mg fa _ KX G.T.g hmg
  have rel : Vals (ns.map V.int) vs := vals_ints hints
  have len2 : (ns.map V.int).length ≤ sizeLine := by
    rw [List.length_map]
    exact Nat.le_trans hlen small
  generalize hU : (HO.frz { cls := .type "list", data := .seq vs.toArray } (.lst (ns.map V.int))) = U
  obtain ⟨H, hH⟩ : ∃ H : Hp, ∀ b, H b = if b = a ∧ (K w.params).lookup a = none then some U else none := ⟨_, fun _ => rfl⟩
  have tr : ∀ b u, H b = some u → b = a ∧ (K w.params).lookup a = none ∧ u = U := by
    intro b u e
    rw [hH] at e
    by_cases c : b = a ∧ (K w.params).lookup a = none
    · rw [if_pos c] at e
      cases e
      exact ⟨c.1, c.2, rfl⟩
    · rw [if_neg c] at e
      cases e
  have untr : ∀ b, (H b = none → False) → b = a ∧ (K w.params).lookup a = none := by
    intro b z
    cases e : H b with
    | none => exact (z e).elim
    | some u => exact ⟨(tr b u e).1, (tr b u e).2.1⟩
  have hok : HOk l.prog w H s₁.heap := by
    intro b u e
    obtain ⟨rfl, _, rfl⟩ := tr b u e
    rw [← hU]
    exact ⟨hobj, len2, vs, _, rel, hobj⟩
  have only : Only H := by
    intro b
    cases e : H b with
    | none => exact Or.inl rfl
    | some u =>
      have e2 := (tr b u e).2.2
      rw [← hU] at e2
      exact Or.inr ⟨_, _, congrArg some e2⟩
  have here : SqL (K w.params) H a (ns.map V.int) := by
    cases e : (K w.params).lookup a with
    | none =>
      have e2 := hH a
      rw [if_pos ⟨rfl, e⟩, ← hU] at e2
      exact Or.inl (Or.inr ⟨_, e2⟩)
    | some o' =>
      have e2 := KX a o' e
      rw [hobj] at e2
      cases e2
      refine Or.inr ⟨_, vs.toArray, _, e, rfl, rfl, rfl, ?_, by simpa using rel⟩
      rw [List.size_toArray, hints.length]
      exact Nat.le_trans hlen small
  have bget : ∀ (b : Addr) (u : Obj), s₁.heap.get? b = some u → H b = none → (hidT s₁.heap H).get? b = some u := fun b u e z => hidT_get e z
  have bns : ∀ (b : Addr) (m : Str → Option Value), s₁.heap.Ns b m → (hidT s₁.heap H).Ns b m := by
    intro b m ⟨u, es, ep, e, hd2, rest⟩
    refine ⟨u, es, ep, bget b u e (Classical.byContradiction fun z => ?_), hd2, rest⟩
    obtain ⟨rfl, _⟩ := untr b z
    rw [hobj] at e
    cases e
    cases (show Data.seq vs.toArray _ = Data.dict es ep from hd2)
  have bK : (K w.params).In (hidT s₁.heap H) := by
    intro b u e
    refine bget b u (KX b u e) (Classical.byContradiction fun z => ?_)
    obtain ⟨rfl, z2⟩ := untr b z
    rw [z2] at e
    cases e
  have md : L2.Mod (K w.params) mg (hidT s₁.heap H) := by
    obtain ⟨mc, c1, c2⟩ := G.T.nolimit
    exact ⟨bK, bns _ _ G.T.g, ⟨mb, bns _ _ G.T.b, G.T.builtins⟩, ⟨mc, bns _ _ c1, c2⟩⟩
  have e0 : Env0 l.prog w (K w.params) mg (hidT s₁.heap H) callerA [] s₁ H :=
    { frames := rfl, mod := md, bs := fun b u e => of_hidT e, bsz := Nat.le_of_eq (hidT_size _ _), funs := trivial
      frf := fun b z => absurd (show b ∈ ([] : List Addr) from z) List.not_mem_nil, hok := hok, bare := AllBare.of_eq gens }
  refine codeAny_mono ((hF _ bK (bns _ _ G.T.g)).run callerA [] s₁ H ⟨[.ref a], []⟩ [.ref a] [.ref a] _ _ rfl room e0 (hb s₁ (.ref a)) (.cons rfl .nil)
    (prom _ H a ns hlen only here)) ?_
  intro r s' fin
  match r, fin with
  | .ok (.ret u), ⟨v, H', os, bare, un, hok', rv, e⟩ =>
    cases (show v = V.bl true from e)
    cases (show u = Value.bool true from rv)
    refine ⟨rfl, OldK.of_keep ?_, os, bare⟩
    intro b ob e1
    cases e2 : H b with
    | none => exact un.keep b ob e1 e2 (fun z => absurd (show b ∈ ([] : List Addr) from z) List.not_mem_nil) List.not_mem_nil
    | some t =>
      have e3 := e2
      rw [(tr b t e2).2.2, ← hU] at e3
      obtain ⟨g1, _⟩ := hok b _ e3
      obtain ⟨g2, _⟩ := hok' b _ (un.frzs b _ _ e3)
      rw [e1] at g1
      cases g1
      exact g2
end Vr
/-! A dict that numbers its keys in their order: a key is a text, or a pair of numbers. -/
namespace VM
open PySem PySem.Spec PyProof.Rows L2
inductive MK where
  | s (x : Str)
  | p (q : Addr) (i j : Int)
abbrev Told := Sum Str (Int × Int)
def MK.v : MK → V
  | .s x => .str x
  | .p q _ _ => .ref q
def MK.told : MK → Told
  | .s x => .inl x
  | .p _ i j => .inr (i, j)
def pk (i j : Int) : List Key := [.inl i, .inl j]
section
variable (P : Program) (w : World)
def hsh : Told → Int
  | .inl x => hashStr w x
  | .inr (i, j) => tupleKeyHash (mixKind P w) (pk i j)
def IsK (h : Heap) : MK → Value → Prop
  | .s x, u => ∃ t, u = .str x t
  | .p q i j, u => u = .ref q ∧ (tupleKind (mixKind P w)).is h (pk i j) q
end
def drw : Told → Nat
  | .inl _ => 1
  | .inr _ => 3
section
variable {P : Program} {w : World} {A : Around} {E : Value → Shared → Prop} {s : Shared} {k l : MK} {u v : Value}
theorem IsK.hash {Q : Int → Shared → Prop} (hu : A.units < cLine) (h : IsK P w s.heap k u) (q : Q (hsh P w k.told) { s with toks := s.toks + drw k.told }) : wpAny (model P w) A (pyHash u) Q E s := by
  cases k with
  | s x =>
    obtain ⟨t, rfl⟩ := h
    exact wpAny_pyHash_str q
  | p a i j =>
    obtain ⟨rfl, h⟩ := h
    exact (tupleKind (mixKind P w)).pyHash hu h q
theorem isTuple_of {h : Heap} {ks : List Key} {q : Addr} (x : (tupleKind (mixKind P w)).is h ks q) : ∃ items, h.IsTuple q items := by
  obtain ⟨o, items, n, h1, h2, h3, _⟩ := x
  exact ⟨items, o, h1, h2, n, h3⟩
theorem IsK.eq {Q : Bool → Shared → Prop} (hu : A.units < cLine) (h : IsK P w s.heap k u) (g : IsK P w s.heap l v) (q : Q (decide (k.told = l.told)) s) : wpAny (model P w) A (eqBool u v) Q E s := by
  cases k with
  | s x =>
    obtain ⟨t, rfl⟩ := h
    cases l with
    | s y =>
      obtain ⟨t', rfl⟩ := g
      refine wpAny_eqBool_str ?_
      rw [decide_eq_decide.mpr (show x = y ↔ (MK.s x).told = (MK.s y).told from ⟨fun e => by rw [e], fun e => by injection e⟩)]
      exact q
    | p b m n =>
      obtain ⟨rfl, g⟩ := g
      obtain ⟨its, it⟩ := isTuple_of g
      rw [decide_eq_false (show ¬ (MK.s x).told = (MK.p b m n).told from fun e => by cases e)] at q
      exact SeqAt.EqAt.str_tuple x t it hu P w E Q q
  | p a i j =>
    obtain ⟨rfl, h⟩ := h
    cases l with
    | s y =>
      obtain ⟨t', rfl⟩ := g
      obtain ⟨its, it⟩ := isTuple_of h
      rw [decide_eq_false (show ¬ (MK.p a i j).told = (MK.s y).told from fun e => by cases e)] at q
      exact SeqAt.EqAt.tuple_str y t' it hu P w E Q q
    | p b m n =>
      obtain ⟨rfl, g⟩ := g
      refine wpAny_eqBool_tuple hu h g ?_
      rw [decide_eq_decide.mpr (show pk i j = pk m n ↔ (MK.p a i j).told = (MK.p b m n).told from ⟨fun e => ?_, fun e => ?_⟩)]
      · exact q
      · injection e with e1 e2
        injection e1 with e1
        injection e2 with e2 _
        injection e2 with e2
        rw [e1, e2]
        rfl
      · injection e with e
        injection e with e1 e2
        rw [e1, e2]
theorem IsK.inj (h : IsK P w s.heap k u) (g : IsK P w s.heap l u) : k.told = l.told := by
  cases k with
  | s x =>
    obtain ⟨t, rfl⟩ := h
    cases l with
    | s y =>
      obtain ⟨t', e⟩ := g
      injection e with e
      rw [e]
    | p b m n => cases g.1
  | p a i j =>
    obtain ⟨rfl, h⟩ := h
    cases l with
    | s y =>
      obtain ⟨t', e⟩ := g
      cases e
    | p b m n =>
      obtain ⟨e, g⟩ := g
      injection e with e
      subst e
      have e := (tupleKind (mixKind P w)).inj h g
      injection e with e1 e2
      injection e1 with e1
      injection e2 with e2 _
      injection e2 with e2
      rw [e1, e2]
theorem IsK.quiet {Q : Bool → Shared → Prop} (h : IsK P w s.heap k u) (q : Q true s) : wpAny (model P w) A (eqIsQuiet 8 u) Q E s := by
  cases k with
  | s x =>
    obtain ⟨t, rfl⟩ := h
    rw [eqIsQuiet_byValue 8 rfl]
    exact wpAny_pure q
  | p a i j =>
    obtain ⟨rfl, h⟩ := h
    exact (tupleKind (mixKind P w)).quiet h q
theorem tells {stored : List Value} {Q : Bool → Shared → Prop} (h : IsK P w s.heap k u) (all : ∀ v ∈ stored, ∃ l, IsK P w s.heap l v) (q : Q false s) : wpAny (model P w) A (tableMayTell u stored) Q E s := by
  unfold tableMayTell
  by_cases e : stored.isEmpty = true
  · rw [if_pos e]
    exact wpAny_pure q
  · rw [if_neg e]
    refine wpAny_bind (h.quiet ?_)
    simp only [Bool.not_true, Bool.false_eq_true, if_false]
    refine wpAny_bind (wpAny_forIn_list _ (fun rest r s' => s' = s ∧ r = (none, ()) ∧ ∀ v ∈ rest, v ∈ stored) _ (fun x rest r s' z => ?_) (fun r s' z => ?_) _ _ ⟨rfl, rfl, fun _ m => m⟩)
    · obtain ⟨rfl, rfl, m⟩ := z
      obtain ⟨l, hl⟩ := all x (m x List.mem_cons_self)
      refine wpAny_bind (hl.quiet ?_)
      simp only [Bool.not_true, Bool.false_eq_true, if_false]
      exact wpAny_pure ⟨rfl, rfl, fun v hv => m v (List.mem_cons_of_mem _ hv)⟩
    · obtain ⟨rfl, rfl, _⟩ := z
      exact wpAny_pure q
end
/-- the entries of the dict at d -/
structure Tbl (P : Program) (w : World) (h : Heap) (ks : List MK) (es : Array DictEntry) : Prop where
  size : es.size = ks.length
  get : ∀ (m : Nat) (l : MK), ks[m]? = some l → ∃ e, es[m]? = some e ∧ e.hash = hsh P w l.told ∧ IsK P w h l e.key
section
variable {P : Program} {w : World} {A : Around} {E : Value → Shared → Prop} {s : Shared} {k : MK} {u : Value}
theorem nodup_told {ks : List MK} (nd : (ks.map MK.told).Nodup) {i j : Nat} {a b : MK} (h1 : ks[i]? = some a) (h2 : ks[j]? = some b) (e : a.told = b.told) : i = j := by
  have g1 : (ks.map MK.told)[i]? = some a.told := by rw [List.getElem?_map, h1]; rfl
  have g2 : (ks.map MK.told)[j]? = some b.told := by rw [List.getElem?_map, h2]; rfl
  exact (List.getElem?_inj (List.getElem?_eq_some_iff.mp g1).1 nd).mp (by rw [g1, g2, e])
/-- the walk over the places of one hash, whatever its turn is made of: at a key that is the same it ends with the place or keeps it, else it goes on -/
theorem looped {ks : List MK} {places : List Nat} {f : Nat → Option (Option Nat) × Option Nat → Sem (ForInStep (Option (Option Nat) × Option Nat))} {R : Option (Option Nat) × Option Nat → Shared → Prop}
    (pnd : places.Nodup) (nd : (ks.map MK.told).Nodup)
    (turn : ∀ i ∈ places, ∀ (hit : Option Nat) (Z : ForInStep (Option (Option Nat) × Option Nat) → Shared → Prop), ∀ l, ks[i]? = some l →
      (l.told = k.told → hit = none ∧ Z (.done (some (some i), hit)) s ∧ Z (.yield (none, some i)) s) → (l.told ≠ k.told → Z (.yield (none, hit)) s) → wpAny (model P w) A (f i (none, hit)) Z E s)
    (there : ∀ i ∈ places, ∃ l, ks[i]? = some l)
    (h1 : (∀ j ∈ places, ∀ l, ks[j]? = some l → l.told ≠ k.told) → R (none, none) s) (h2 : ∀ m l hit, ks[m]? = some l → l.told = k.told → R (some (some m), hit) s ∧ R (none, some m) s) :
    wpAny (model P w) A (forIn places (none, none) f) R E s := by
  refine wpAny_forIn_list f (fun rest b s' => s' = s ∧ ∃ pre hit, places = pre ++ rest ∧ b = (none, hit) ∧
    ((hit = none ∧ ∀ j ∈ pre, ∀ l, ks[j]? = some l → l.told ≠ k.told) ∨ ∃ m l, hit = some m ∧ m ∈ pre ∧ ks[m]? = some l ∧ l.told = k.told)) R (fun i rest b s' z => ?_) (fun b s' z => ?_) _ _ ⟨rfl, [], none, rfl, rfl, .inl ⟨rfl, by simp⟩⟩
  · obtain ⟨rfl, pre, hit, e, rfl, c⟩ := z
    have hi : i ∈ places := by
      rw [e]
      exact List.mem_append_right _ List.mem_cons_self
    obtain ⟨l, hl⟩ := there i hi
    have e2 : places = (pre ++ [i]) ++ rest := by rw [e, List.append_assoc]; rfl
    refine turn i hi hit _ l hl (fun same => ?_) (fun other => ?_)
    · have z : hit = none := by
        rcases c with ⟨c, _⟩ | ⟨m, l', _, hm, hl', same'⟩
        · exact c
        · have em := nodup_told nd hl' hl (same'.trans same.symm)
          rw [e] at pnd
          obtain ⟨_, _, dis⟩ := List.nodup_append.mp pnd
          exact absurd em (dis m hm i List.mem_cons_self)
      exact ⟨z, (h2 i l hit hl same).1, rfl, pre ++ [i], some i, e2, rfl, .inr ⟨i, l, rfl, List.mem_append_right _ List.mem_cons_self, hl, same⟩⟩
    · refine ⟨rfl, pre ++ [i], hit, e2, rfl, ?_⟩
      rcases c with ⟨c, d⟩ | ⟨m, l', c, hm, r⟩
      · refine .inl ⟨c, fun j hj l2 hl2 => ?_⟩
        rcases List.mem_append.mp hj with hj | hj
        · exact d j hj l2 hl2
        · rw [List.mem_singleton.mp hj, hl] at hl2
          cases hl2
          exact other
      · exact .inr ⟨m, l', c, List.mem_append_left _ hm, r⟩
  · obtain ⟨rfl, pre, hit, e, rfl, c⟩ := z
    rw [List.append_nil] at e
    subst e
    rcases c with ⟨rfl, d⟩ | ⟨m, l, rfl, _, hl, same⟩
    · exact h1 d
    · exact (h2 m l none hl same).2
theorem find {d : Addr} {o : Obj} {es : Array DictEntry} {ep : Nat} {ks : List MK} {Q : Option Nat → Shared → Prop} (hu : A.units < cLine) (hk : IsK P w s.heap k u) (ho : s.heap.get? d = some o) (hd : o.data = .dict es ep)
    (tb : Tbl P w s.heap ks es) (nd : (ks.map MK.told).Nodup)
    (hno : (∀ (m : Nat) (l : MK), ks[m]? = some l → l.told ≠ k.told) → Q none s) (hyes : ∀ (m : Nat) (l : MK), ks[m]? = some l → l.told = k.told → Q (some m) s) :
    wpAny (model P w) A (dictFind d u (hsh P w k.told)) Q E s := by
  have ent : ∀ (m : Nat) (e : DictEntry), es[m]? = some e → ∃ l, ks[m]? = some l ∧ e.hash = hsh P w l.told ∧ IsK P w s.heap l e.key := by
    intro m e he
    have lt : m < ks.length := by
      have := (Array.getElem?_eq_some_iff.mp he).1
      rw [tb.size] at this
      exact this
    obtain ⟨e', h1, h2, h3⟩ := tb.get m _ (List.getElem?_eq_getElem lt)
    rw [he] at h1
    cases h1
    exact ⟨_, List.getElem?_eq_getElem lt, h2, h3⟩
  generalize hpl : placesWithHash es.size (fun i => es[i]?.map (·.hash)) (hsh P w k.told) = places
  have pmem : ∀ i, i ∈ places ↔ ∃ e, es[i]? = some e ∧ e.hash = hsh P w k.told := by
    intro i
    rw [← hpl, placesWithHash, List.mem_filter]
    constructor
    · rintro ⟨h1, h2⟩
      cases e : es[i]? with
      | none =>
        rw [e] at h2
        cases h2
      | some x =>
        rw [e] at h2
        exact ⟨x, rfl, by simpa using h2⟩
    · rintro ⟨e, h1, h2⟩
      refine ⟨List.mem_range.mpr (Array.getElem?_eq_some_iff.mp h1).1, ?_⟩
      rw [h1]
      simp [h2]
  have pnd : places.Nodup := by
    rw [← hpl, placesWithHash]
    exact List.Nodup.sublist List.filter_sublist List.nodup_range
  have miss : (∀ j ∈ places, ∀ l, ks[j]? = some l → l.told ≠ k.told) → Q none s := fun h => hno fun m l hl e => by
    obtain ⟨x, h1, h2, _⟩ := tb.get m l hl
    exact h m ((pmem m).mpr ⟨x, h1, by rw [h2, e]⟩) l hl e
  unfold dictFind
  refine wpAny_holding ?_
  refine wpAny_bind (wpAny_dictEntries ho hd ?_)
  dsimp only
  rw [hpl]
  have there : ∀ i ∈ places, ∃ l, ks[i]? = some l := fun i hi => by
    obtain ⟨e, he, _⟩ := (pmem i).mp hi
    obtain ⟨l, hl, _⟩ := ent i e he
    exact ⟨l, hl⟩
  have stored : ∀ v ∈ List.filterMap (fun i => Option.map (fun x => x.key) es[i]?) places, ∃ l, IsK P w s.heap l v := fun v hv => by
    obtain ⟨i, _, hi⟩ := List.mem_filterMap.mp hv
    obtain ⟨e, he, rfl⟩ := Option.map_eq_some_iff.mp hi
    obtain ⟨l, _, _, hl⟩ := ent i e he
    exact ⟨l, hl⟩
  have key : (∃ x t, u = .str x t) ∨ ∃ a, u = .ref a := by
    cases k with
    | s x => exact .inl ⟨x, hk⟩
    | p a i j => exact .inr ⟨a, hk.1⟩
  rcases key with ⟨x, t, rfl⟩ | ⟨a, rfl⟩
  · dsimp only
    by_cases c1 : (es.all fun e => isExactStrKey e.key) = true
    · rw [if_pos c1]
      unfold foundByValue
      have hx : k = .s x := by
        cases k with
        | s y =>
          obtain ⟨t', e⟩ := hk
          injection e with e
          rw [e]
        | p b m n =>
          cases hk.1
      subst hx
      have said : ∀ (m : Nat) (e : DictEntry) (l : MK), es[m]? = some e → IsK P w s.heap l e.key → ((Value.isStr e.key x = true) ↔ l.told = (MK.s x).told) := by
        intro m e l he hl
        cases l with
        | s y =>
          obtain ⟨t', ek⟩ := hl
          rw [ek]
          show ((y == x) = true) ↔ _
          rw [beq_iff_eq]
          exact ⟨fun z => by rw [z], fun z => by injection z⟩
        | p b m' n =>
          obtain ⟨ek, _⟩ := hl
          rw [ek]
          exact ⟨fun z => (by cases z), fun z => (by cases z)⟩
      cases hf : Array.findIdx? (fun y => y.key.isStr x) es with
      | none =>
        refine wpAny_pure (hno fun m l hl same => ?_)
        obtain ⟨e, he, _, hk'⟩ := tb.get m l hl
        have := Array.findIdx?_eq_none_iff.mp hf e (Array.mem_of_getElem? he)
        rw [(said m e l he hk').mpr same] at this
        cases this
      | some i =>
        obtain ⟨hi, hp, _⟩ := Array.findIdx?_eq_some_iff_getElem.mp hf
        have he : es[i]? = some es[i] := Array.getElem?_eq_getElem hi
        obtain ⟨l, hl, _, hk'⟩ := ent i _ he
        have same := (said i _ l he hk').mp hp
        dsimp only
        rw [he]
        dsimp only
        refine wpAny_bind (wpAny_dictEpoch ho hd (wpAny_bind (hk'.eq hu hk (wpAny_bind (wpAny_dictEpoch ho hd ?_)))))
        rw [if_neg (by simp), if_pos (decide_eq_true same)]
        exact wpAny_bind (wpAny_rule (wpAny_pure (hyes i l hl same)))
    · rw [if_neg c1]
      by_cases c2 : (Value.str x t :: List.filterMap (fun i => Option.map (fun x => x.key) es[i]?) places).all carriedByValue = true
      · rw [if_pos c2]
        unfold dictWalkPlain
        refine wpAny_bind (wpAny_forIn_list _ (fun rest b s' => s' = s ∧ b = (none, ()) ∧ ∃ pre, places = pre ++ rest ∧ ∀ j ∈ pre, ∀ l, ks[j]? = some l → l.told ≠ k.told) _ (fun i rest b s' z => ?_) (fun b s' z => ?_) _ _ ⟨rfl, rfl, [], rfl, by simp⟩)
        · obtain ⟨rfl, rfl, pre, ep', no⟩ := z
          have hi : i ∈ places := by
            rw [ep']
            exact List.mem_append_right _ List.mem_cons_self
          obtain ⟨e, he, hh⟩ := (pmem i).mp hi
          obtain ⟨l, hl, _, hk'⟩ := ent i e he
          rw [he]
          dsimp only
          rw [if_pos (by rw [hh]; exact beq_self_eq_true _)]
          refine wpAny_bind (wpAny_dictEpoch ho hd (wpAny_bind (hk'.eq hu hk (wpAny_bind (wpAny_dictEpoch ho hd ?_)))))
          rw [if_neg (by simp)]
          by_cases same : l.told = k.told
          · rw [if_pos (decide_eq_true same)]
            exact wpAny_bind (wpAny_rule (wpAny_pure (wpAny_pure (hyes i l hl same))))
          · rw [if_neg (by rw [decide_eq_false same]; exact Bool.false_ne_true)]
            refine wpAny_bind (wpAny_rule (wpAny_pure ⟨rfl, rfl, pre ++ [i], by rw [ep', List.append_assoc]; rfl, fun j hj l2 hl2 => ?_⟩))
            rcases List.mem_append.mp hj with hj | hj
            · exact no j hj l2 hl2
            · rw [List.mem_singleton.mp hj, hl] at hl2
              cases hl2
              exact same
        · obtain ⟨rfl, rfl, pre, ep', no⟩ := z
          rw [List.append_nil] at ep'
          subst ep'
          exact wpAny_pure (miss no)
      · rw [if_neg c2]
        by_cases c3 : (List.filterMap (fun i => Option.map (fun x => x.key) es[i]?) places == [Value.str x t]) = true <;>
        (first | rw [if_pos c3] | rw [if_neg c3]) <;>
        (first | refine wpAny_bind (wpAny_pure ?_) | refine wpAny_bind (tells hk stored ?_)) <;>
        (rw [Bool.false_and, if_neg Bool.false_ne_true]
         refine wpAny_bind (looped (k := k) pnd nd (fun i hi hit Z l hl y n => ?_) there (fun z => ?_) (fun m l hit hl same => ?_))
         · obtain ⟨e, he, hh⟩ := (pmem i).mp hi
           obtain ⟨l', hl', _, hk'⟩ := ent i e he
           rw [hl] at hl'
           cases hl'
           rw [he]
           dsimp only
           rw [if_pos (by rw [hh]; exact beq_self_eq_true _)]
           refine wpAny_bind (wpAny_dictEpoch ho hd (wpAny_bind (hk'.eq hu hk (wpAny_bind (wpAny_dictEpoch ho hd ?_)))))
           rw [if_neg (by simp)]
           by_cases same : l.told = k.told
           · obtain ⟨rfl, y1, y2⟩ := y same
             rw [if_pos (decide_eq_true same), if_neg (show ¬ (none : Option Nat).isSome = true from Bool.false_ne_true)]
             refine wpAny_bind (wpAny_rule ?_)
             split
             · exact wpAny_pure y1
             · exact wpAny_pure y2
           · rw [if_neg (by rw [decide_eq_false same]; exact Bool.false_ne_true)]
             refine wpAny_bind (wpAny_rule ?_)
             rw [Bool.false_and, if_neg Bool.false_ne_true]
             exact wpAny_pure (n same)
         · exact wpAny_pure (miss z)
         · exact ⟨wpAny_pure (hyes m l hl same), wpAny_pure (hyes m l hl same)⟩)
  · dsimp only
    rw [if_neg (by simp [carriedByValue])]
    rw [if_neg (fun z => by
      obtain ⟨m, hm, z⟩ := Array.any_eq_true.mp z
      obtain ⟨l, _, hh, hl⟩ := ent m es[m] (Array.getElem?_eq_getElem hm)
      simp only [Bool.and_eq_true, beq_iff_eq, bne_iff_ne, ne_eq] at z
      obtain ⟨z1, z2⟩ := z
      rw [z1] at hl
      exact z2 (by rw [hh, hl.inj hk]))]
    by_cases c3 : (List.filterMap (fun i => Option.map (fun x => x.key) es[i]?) places == [Value.ref a]) = true <;>
    (first | rw [if_pos c3] | rw [if_neg c3]) <;>
    (first | refine wpAny_bind (wpAny_pure ?_) | refine wpAny_bind (tells hk stored ?_)) <;>
    (rw [Bool.false_and, if_neg Bool.false_ne_true]
     refine wpAny_bind (looped (k := k) pnd nd (fun i hi hit Z l hl y n => ?_) there (fun z => ?_) (fun m l hit hl same => ?_))
     · obtain ⟨e, he, hh⟩ := (pmem i).mp hi
       obtain ⟨l', hl', _, hk'⟩ := ent i e he
       rw [hl] at hl'
       cases hl'
       rw [he]
       dsimp only
       rw [if_pos (by rw [hh]; exact beq_self_eq_true _)]
       refine wpAny_bind (wpAny_dictEpoch ho hd (wpAny_bind (hk'.eq hu hk (wpAny_bind (wpAny_dictEpoch ho hd ?_)))))
       rw [if_neg (by simp)]
       by_cases same : l.told = k.told
       · obtain ⟨rfl, y1, y2⟩ := y same
         rw [if_pos (decide_eq_true same), if_neg (show ¬ (none : Option Nat).isSome = true from Bool.false_ne_true)]
         refine wpAny_bind (wpAny_rule ?_)
         split
         · exact wpAny_pure y1
         · exact wpAny_pure y2
       · rw [if_neg (by rw [decide_eq_false same]; exact Bool.false_ne_true)]
         refine wpAny_bind (wpAny_rule ?_)
         rw [Bool.false_and, if_neg Bool.false_ne_true]
         exact wpAny_pure (n same)
     · exact wpAny_pure (miss z)
     · exact ⟨wpAny_pure (hyes m l hl same), wpAny_pure (hyes m l hl same)⟩)
end
end VM
namespace VM
open PySem PySem.Spec PyProof.Rows L2
/-- the dict at d numbers the keys ks -/
def At (P : Program) (w : World) (d : Addr) (ks : List MK) (h : Heap) : Prop :=
  (d == sysModules) = false ∧ ks.length ≤ sizeLine ∧ (ks.map MK.told).Nodup ∧ ∃ (o : Obj) (es : Array DictEntry) (ep : Nat), h.get? d = some o ∧ o.ExactDict ∧ o.data = .dict es ep ∧ es.size = ks.length ∧
    ∀ (m : Nat) (l : MK), ks[m]? = some l → ∃ e, es[m]? = some e ∧ e.hash = hsh P w l.told ∧ RelV l.v e.key ∧ RelV (.int (m : Int)) e.val
def DM (P : Program) (w : World) (d : Addr) (ks : List MK) : HO := .ext (At P w d ks)
/-- the pairs among the keys stand in the heap -/
def Pairs (H : Hp) (ks : List MK) : Prop := ∀ q i j, MK.p q i j ∈ ks → H q = some (.tup [.int i, .int j])
theorem Pairs.keep {H H' : Hp} {ks : List MK} (h : Pairs H ks) (k : ∀ p xs, H p = some (.tup xs) → H' p = some (.tup xs)) : Pairs H' ks := fun q i j m => k _ _ (h q i j m)
section
variable {P : Program} {w : World} {H : Hp} {h : Heap} {d : Addr} {ks : List MK}
theorem dm_new (x : At P w d ks h) : ObjOk P w H h d (DM P w d ks) := by
  obtain ⟨a1, a2, a3, o, es, ep, ho, r⟩ := id x
  refine ⟨x, ⟨o, ho⟩, ?_⟩
  rintro h1 h2 ⟨b1, b2, b3, o', es', ep', ho', r'⟩ k
  exact ⟨b1, b2, b3, o', es', ep', k _ ho', r'⟩
theorem isK_of {l : MK} {u : Value} (ok : HOk P w H h) (r : RelV l.v u) (pr : ∀ q i j, l = .p q i j → H q = some (.tup [.int i, .int j])) : IsK P w h l u := by
  cases l with
  | s x => exact r
  | p q i j => exact ⟨r, key_of (ks := pk i j) ok (pr q i j rfl)⟩
theorem tbl_of {es : Array DictEntry} (ok : HOk P w H h) (pr : Pairs H ks) (sz : es.size = ks.length)
    (g : ∀ (m : Nat) (l : MK), ks[m]? = some l → ∃ e, es[m]? = some e ∧ e.hash = hsh P w l.told ∧ RelV l.v e.key ∧ RelV (.int (m : Int)) e.val) : Tbl P w h ks es where
  size := sz
  get := fun m l hl => by
    obtain ⟨e, h1, h2, h3, _⟩ := g m l hl
    exact ⟨e, h1, h2, isK_of ok h3 fun q i j el => pr q i j (el ▸ List.mem_of_getElem? hl)⟩
end
def tDNewM (P : Program) (w : World) : TE := fun _ H Q => ∀ p, H p = none → Q (.ref p) (upd H p (DM P w p []))
section
variable {X : Cx}
theorem pe_dnewM {pos : Pos} : PE X (.Dict [] [] pos) (tDNewM X.prog X.w) := ⟨fun pins s σ H Q I h => by
  refine wpAny_Dict_empty ⟨.ref s.heap.objs.size, upd H s.heap.objs.size (DM X.prog X.w s.heap.objs.size []), ?_, rfl, h _ (I.hok.fresh (Nat.le_refl _))⟩
  refine I.laid (t' := s.toks) (fun b u z => Heap.get?_push_of_some _ z) (Nat.le_refl _) (dm_new ⟨?_, Nat.zero_le _, List.nodup_nil, _, #[], 0, Heap.get?_push_size _ rfl, ⟨rfl, rfl, rfl⟩, rfl, rfl, fun m l z => by simp at z⟩)
  exact beq_eq_false_iff_ne.mpr (Ne.symm (Nat.ne_of_lt I.big))⟩
/-- len(d) -/
def rLenM (P : Program) (w : World) : List V → Hp → VK → Prop := fun xs H Q => ∃ (p : Addr) (ks : List MK), xs = [.ref p] ∧ H p = some (DM P w p ks) ∧ Q (.int ((ks.length : Nat) : Int)) H
theorem sized {P : Program} {w : World} {A : Around} {E : Value → Shared → Prop} {s : Shared} {d : Addr} {ks : List MK} {Q : Value → Shared → Prop} (x : At P w d ks s.heap)
    (q : ∀ t tk, Q (.int ((ks.length : Nat) : Int) t) { s with toks := tk }) : wpAny (model P w) A (call (.builtin "len") [.ref d]) Q E s := by
  obtain ⟨hsys, hz, _, o, es, ep, ho, hex, hdat, sz, _⟩ := x
  rw [sizeLine_eq] at hz
  have ty : s.TypeIs (.ref d) "dict" := ⟨o, ho, hex.1⟩
  refine Calls.call_function_entry kind_len plain_len entry_len (args_len1 _) ?_
  unfold Builtin.«len»
  refine wpAny_bind (m := oneArg "len" _) (wpAny_pure ?_)
  have g : MeetsIn P w (Builtin.«dict.__len__» ⟨[.ref d], []⟩) (fun _ R z => z = s ∧ R (.ok (.ret (.int ((ks.length : Nat) : Int) s.toks))) { s with toks := s.toks + 1 }) := .of_wp fun A' R z hR => by
    obtain ⟨rfl, hR⟩ := hR
    show wpAny _ _ (dictSize d >>= fun n => _) _ _ z
    unfold dictSize
    refine wpAny_bind (wpAny_bind (wpAny_dictEntries ho hdat (wpAny_pure ?_)))
    show wpAny _ _ (Builtin.Dict.pendingCount d >>= fun n => _) _ _ z
    refine wpAny_bind (wpAny_pendingCount_other hsys (wpAny_ret_mkInt ?_))
    rw [Nat.add_zero, sz]
    exact hR
  refine wpAny_bind (m := callSpecial? (.ref d) (Str.ofString "__len__")) (wpAny_callSpecial?_slot (name := Str.ofString "__len__") ty F.slot_dict_len (call_meetsIn F.slot_dict_len ty F.entry_dict_len (F.args_dict_len_1 _) g ⟨rfl, ?_⟩))
  refine wpAny_bind (wpAny_holding (wpAny_pure (wpAny_bind (wpAny_letGo ?_))))
  show wpAny _ _ (if ((ks.length : Nat) : Int) < 0 then _ else _) _ _ _
  rw [if_neg (show ¬ ((ks.length : Nat) : Int) < 0 by omega)]
  show wpAny _ _ (if ((ks.length : Nat) : Int) ≥ 2 ^ 63 then _ else _) _ _ _
  rw [if_neg (show ¬ ((ks.length : Nat) : Int) ≥ 2 ^ 63 by omega)]
  exact wpAny_bind (wpAny_mkInt (wpAny_pure ⟨_, rfl, q _ _⟩))
theorem call_lenM : CallR X (.builtin "len") (rLenM X.prog X.w) := by
  intro pins s σ H xs us Q I r h
  obtain ⟨p, ks, rfl, hp, q⟩ := h
  obtain ⟨u, rfl, rx⟩ := vals1 r
  obtain rfl : u = .ref p := rx
  exact sized (I.hok p _ hp).1 fun t tk => ⟨.int ((ks.length : Nat) : Int), H, I.tok _, ⟨_, rfl⟩, q⟩
/-- list(d) -/
def rListM (P : Program) (w : World) : List V → Hp → VK → Prop := fun xs H Q => ∃ (p : Addr) (ks : List MK), xs = [.ref p] ∧ H p = some (DM P w p ks) ∧ ∀ q, H q = none → Q (.ref q) (upd H q (.lst (ks.map MK.v)))
theorem call_listM (hc : X.calm = true) : CallR X (.type "list") (rListM X.prog X.w) := by
  intro pins s σ H xs us Q I r h
  obtain ⟨p, ks, rfl, hp, q⟩ := h
  obtain ⟨u, rfl, rx⟩ := vals1 r
  obtain rfl : u = .ref p := rx
  obtain ⟨hsys, hz, _, o, es, ep, ho, hex, hdat, sz, g⟩ := (I.hok p _ hp).1
  refine PySem.W.kdl_call (kdl_raw hsys hex hdat) (I.ok.hd hc) ho (by rw [sz]; exact hz) fun h' tk acc c kp e it => ?_
  refine ⟨.ref s.heap.objs.size, upd H s.heap.objs.size (.lst (ks.map MK.v)), I.laid kp (Nat.le_refl _) (show ObjOk X.prog X.w _ _ _ (.lst (ks.map MK.v)) from ⟨by rw [List.length_map]; exact hz, acc.toList, c, ?_, ?_⟩), rfl, q _ (I.hok.fresh (Nat.le_refl _))⟩
  · have ln : acc.toList.length = ks.length := by
      rw [Array.length_toList, it.1]
      exact sz
    have e2 : ks.map MK.v = (List.range acc.toList.length).map fun m => ((ks.map MK.v)[m]?).getD .non := by
      apply List.ext_getElem?
      intro m
      rw [ln, List.getElem?_map]
      by_cases hm : m < ks.length
      · rw [List.getElem?_map, List.getElem?_range hm, List.getElem?_eq_getElem hm]
        simp
        rw [List.getElem?_eq_getElem hm]
        rfl
      · rw [List.getElem?_eq_none (by omega), List.getElem?_eq_none (by rw [List.length_map, List.length_range]; omega)]
        rfl
    rw [e2]
    refine vals_of_get acc.toList _ fun m u hu => ?_
    have hm : m < ks.length := by
      rw [← ln]
      exact (List.getElem?_eq_some_iff.mp hu).1
    obtain ⟨en, h1, rfl⟩ := it.2 m u (by rw [← hu, Array.getElem?_toList])
    obtain ⟨en', h2, _, h3, _⟩ := g m _ (List.getElem?_eq_getElem hm)
    rw [h1] at h2
    cases h2
    rw [List.getElem?_map, List.getElem?_eq_getElem hm]
    exact h3
  · rw [Array.toArray_toList]
    exact e
/-- d.setdefault(k, len(d)) -/
def rSetdM (P : Program) (w : World) : V → List V → Hp → VK → Prop := fun x xs H Q => ∃ (d : Addr) (ks : List MK) (k : MK), x = .ref d ∧ xs = [k.v, .int ((ks.length : Nat) : Int)] ∧ H d = some (DM P w d ks) ∧ Pairs H ks ∧
  (∀ q i j, k = .p q i j → H q = some (.tup [.int i, .int j])) ∧ ks.length < sizeLine ∧ (∀ (m : Nat) (l : MK), ks[m]? = some l → l.told = k.told → Q (.int (m : Int)) H) ∧
  ((∀ (m : Nat) (l : MK), ks[m]? = some l → l.told ≠ k.told) → Q (.int ((ks.length : Nat) : Int)) (upd H d (DM P w d (ks ++ [k]))))
theorem mt_setdM (hu : X.A.units + 1 < cLine) : MtM X "dict.setdefault" (rSetdM X.prog X.w) := by
  intro pins s σ H x xs v us Q I rx r h
  obtain ⟨d, ks, k, rfl, rfl, hd, pr, pk', hl, h1, h2⟩ := h
  obtain rfl : v = .ref d := rx
  obtain ⟨u, z, rfl, ru, rz⟩ := vals2 r
  obtain ⟨hsys, hz, hnd, o, es, ep, ho, hex, hdat, sz, g⟩ := id (I.hok d _ hd).1
  have tb := tbl_of I.hok pr sz g
  have hk := isK_of I.hok ru pk'
  have ty : s.TypeIs (.ref d) "dict" := ⟨o, ho, hex.1⟩
  have g2 : MeetsIn X.prog X.w (Builtin.«dict.setdefault» ⟨[.ref d, u, z], []⟩) (fun A R z' => A = X.A ∧ z' = s ∧
      (∀ (m : Nat) (l : MK), ks[m]? = some l → l.told = k.told → ∀ t tk, R (.ok (.ret (.int (m : Int) t))) { s with toks := tk }) ∧
      ((∀ (m : Nat) (l : MK), ks[m]? = some l → l.told ≠ k.told) → ∀ h' tk, At X.prog X.w d (ks ++ [k]) h' → Heap.SameBut d s.heap h' → R (.ok (.ret z)) { s with heap := h', toks := tk })) := .of_wp fun A R z' hR => by
    obtain ⟨rfl, rfl, r1, r2⟩ := hR
    unfold Builtin.«dict.setdefault» Builtin.Dict.keyAndDefault
    refine wpAny_bind (wpAny_bind (wpAny_notOrdered_dict ty ?_))
    show wpAny _ _ (pure (d, u, some z)) _ _ z'
    refine wpAny_pure ?_
    show wpAny _ _ (if (d == sysModules) = true then _ else (dictSetDefault d u z >>= fun n => _)) _ _ z'
    rw [if_neg (by rw [hsys]; exact Bool.false_ne_true)]
    unfold dictSetDefault
    refine wpAny_bind (wpAny_holding (wpAny_bind (hk.hash hu (wpAny_bind ?_))))
    have hu1 : X.A.in1.units < cLine := hu
    refine find (s := { z' with toks := z'.toks + drw k.told }) hu1 hk ho hdat tb hnd (fun no => ?_) (fun m l hl' same => ?_)
    · refine wpAny_bind (wpAny_rule (wpAny_bind (wpAny_updateDictKeys (hz := by rw [sz]; exact hz) (s := { z' with toks := z'.toks + drw k.told }) ho hdat (wpAny_pure (wpAny_pure ⟨z, rfl, ?_⟩)))))
      refine r2 no _ _ ⟨hsys, ?_, ?_, _, _, ep + 1, Heap.get?_update_self _ ho (Obj.isFreed_of_dict (Obj.data_mapDictKeys hdat _)), hex.mapDictKeys _, Obj.data_mapDictKeys hdat _, ?_, ?_⟩ (Heap.SameBut.update ..)
      · rw [List.length_append, List.length_singleton]
        omega
      · rw [List.map_append, List.nodup_append]
        refine ⟨hnd, by simp, ?_⟩
        intro a ha b hb
        obtain ⟨l, hl', rfl⟩ := List.mem_map.mp ha
        obtain ⟨m, hm⟩ := List.mem_iff_getElem?.mp hl'
        have eb : b = k.told := by simpa using hb
        rw [eb]
        exact no m l hm
      · rw [Array.size_push, sz, List.length_append, List.length_singleton]
      · intro m l hm
        by_cases c : m < ks.length
        · rw [List.getElem?_append_left c] at hm
          obtain ⟨e, e1, e2⟩ := g m l hm
          refine ⟨e, ?_, e2⟩
          rw [Array.getElem?_push_lt (by omega)]
          rw [← e1, Array.getElem?_eq_getElem]
        · have c2 : m = ks.length := by
            have := (List.getElem?_eq_some_iff.mp hm).1
            rw [List.length_append, List.length_singleton] at this
            omega
          subst c2
          rw [List.getElem?_append_right (Nat.le_refl _), Nat.sub_self] at hm
          cases hm
          refine ⟨_, by rw [← sz]; exact Array.getElem?_push_size, rfl, ru, rz⟩
    · obtain ⟨e, e1, _, _, e2⟩ := g m l hl'
      obtain ⟨t, e2⟩ := e2
      refine wpAny_bind (wpAny_dictEntries (s := { z' with toks := z'.toks + drw k.told }) ho hdat ?_)
      rw [e1]
      refine wpAny_bind (wpAny_rule (wpAny_pure (wpAny_pure ⟨e.val, rfl, ?_⟩)))
      rw [e2]
      exact r1 m l hl' same _ _
  refine call_meetsIn F.slot_dict_setdefault ty F.entry_dict_setdefault (F.args_dict_setdefault_3 _ _ _) g2 ⟨rfl, rfl, fun m l hm same t tk => ?_, fun no h' tk at' sb => ?_⟩
  · exact ⟨.int (m : Int), H, I.tok _, ⟨_, rfl⟩, h1 m l hm same⟩
  · obtain ⟨_, _, _, o', _, _, ho', _⟩ := id at'
    exact ⟨.int ((ks.length : Nat) : Int), upd H d (DM X.prog X.w d (ks ++ [k])), d_write I (by rw [hd]; trivial) sb ⟨o', ho'⟩ (dm_new at'), rz, h2 no⟩
def tSetdM (P : Program) (w : World) (to : TE) (t : TA) : TE := fun σ H Q => to σ H fun x H1 => (∃ d ks, x = V.ref d ∧ H1 d = some (DM P w d ks)) ∧ t σ H1 fun xs H2 => rSetdM P w x xs H2 Q
theorem pe_setdM {o e f : Expr} {to : TE} {t : TA} {apos cpos : Pos} (hu : X.A.units + 1 < cLine) (ho : PE X o to) (ha : PA X [e, f] t) (m : M2 X o "setdefault" apos e f cpos) :
    PE X (.Call (.Attribute o "setdefault" apos) [e, f] [] cpos) (tSetdM X.prog X.w to t) := ⟨fun pins s σ H Q I h => by
  refine wpAny_Call_method_late m.base m.few m.line rfl (thn (ho.run pins s σ H _ I h) fun v s1 ⟨x, H1, I1, rx, ⟨d, ks, ex, hd⟩, q1⟩ => ?_)
  subst ex
  obtain rfl : v = .ref d := rx
  obtain ⟨_, _, _, ob, _, _, hob, hex, _⟩ := (I1.hok d _ hd).1
  refine ⟨"dict", "dict.setdefault", F.plainAttrs_dict, F.slot_dict_setdefault, F.type_dict_setdefault, ⟨ob, hob, hex.1⟩, fun b z => ?_, ?_⟩
  · cases z
    exact ⟨ob, hob, hex.2.1⟩
  have hA := ha.run cpos pins s1 σ H1 _ I1 q1
  rw [m.trees] at hA ⊢
  refine Calls.callWith_builtin rfl (Calls.evalArgs_plain (thn hA fun us s2 ⟨vs, H2, I2, r2, q2⟩ => ?_))
  exact mt_setdM hu pins s2 σ H2 (.ref d) vs (.ref d) us Q I2 rfl r2 q2⟩
end
end VM
namespace K88
open PySem PySem.Spec PyProof.Rows L2 Vr
def top (i : Nat) : Stmt := PySem.Challenge.pw_eitherside_k88_turns_and_the_same_elsewh.main.body.getD i (.Pass ⟨0, 0, 0, 0⟩)
abbrev sTake : Stmt := top 10
/-- a bag at b: what is left of a great cell, a seed, a count -/
def Bag (H : Hp) (b : Addr) : Prop := ∃ x y z : Int, H b = some (.lst [.int x, .int y, .int z]) ∧ 0 ≤ x ∧ 0 ≤ y ∧ y < 2147483647
/-- all but the bag stands -/
def But (b : Addr) (H H' : Hp) : Prop := ∀ c o, H c = some o → c ≠ b → H' c = some o
def spTake : Sp := fun vs H Q _ => ∃ (b : Addr) (m : Int), vs = [.ref b, .int m] ∧ 0 < m ∧ m < 1000000 ∧ Bag H b ∧
  ∀ (r : Int) (H' : Hp), 0 ≤ r → r < m → Bag H' b → But b H H' → Q (.int r) H'
section
variable {P : Program} {w : World} {K : PySem.W.Frag} {mg : Str → Option Value} {base : Heap}
theorem scTake : FnScope ["_law_bag_here", "_law_many", "_law_digit"] ["_law_bag_here", "_law_many"] (defScope sTake) := ⟨rfl, rfl, rfl, by decide +kernel, rfl, by decide +kernel, by decide +kernel⟩
theorem ok_take {f : Addr} {fd : FuncData} (F : Fun K "_law_take" "_law_take" sTake f fd) : FnOk P w K mg base CX0 1 f fd ["_law_bag_here", "_law_many"] spTake := by
  refine F.ok scTake (fun vs H Q E h => ?_) (fun cdv A outer s H vs Q E hr h => ?_)
  · obtain ⟨b, m, rfl, _⟩ := h
    rfl
  · obtain ⟨b, m, rfl, m0, m1, ⟨x, y, z, hb, x0, y0, y1⟩, k⟩ := h
    refine ⟨_, pss_cons (ps_if (pt_cmpR op_gt (pe_ix ix_list (pv 0) pe_int (fun _ _ => rfl)) pe_int (nomark _))
        (pss_cons (ps_set (i := 2) scTake.nd rfl (Or.inl rfl) (pe_op op_modN (pe_ix ix_list (pv 0) pe_int (fun _ _ => rfl)) (pv 1)))
          (pss_cons (ps_asg (pe_op op_fdivN (pe_ix ix_list (pv 0) pe_int (fun _ _ => rfl)) (pv 1)) (pg_sub (pv 0) pe_int set_list))
            (pss_one (ps_ret (pv 2))))) pss_nil)
      (pss_cons (ps_asg (pe_op op_add (pe_ix ix_list (pv 0) pe_int (fun _ _ => rfl)) pe_int) (pg_sub (pv 0) pe_int set_list))
      (pss_cons (ps_asg (pe_op op_mod (pe_op op_add (pe_op op_add (pe_op op_mul (pe_ix ix_list (pv 0) pe_int (fun _ _ => rfl)) pe_int) (pe_op op_mul pe_int (pe_ix ix_list (pv 0) pe_int (fun _ _ => rfl)))) pe_int) pe_int) (pg_sub (pv 0) pe_int set_list))
      (pss_one (ps_ret (pe_op op_modN (pe_op op_fdiv (pe_op op_mod (pe_op op_pow (pe_op op_fdiv (pe_ix ix_list (pv 0) pe_int (fun _ _ => rfl)) pe_int) pe_int) pe_int) pe_int) (pv 1)))))), ?_⟩
    have f0 : ∀ i : Int, 0 ≤ i.fmod m := fun i => Int.fmod_nonneg_of_pos i m0
    have f1 : ∀ i : Int, i.fmod m < m := fun i => Int.fmod_lt_of_pos i m0
    refine ⟨_, rfl, b, _, _, _, rfl, rfl, SqL.of hb, rfl, _, _, rfl, rfl, _, rfl, ?_⟩
    refine ite2 (fun c => ?_) (fun c => ?_)
    · refine ⟨_, rfl, b, _, _, _, rfl, rfl, SqL.of hb, rfl, _, rfl, _, _, rfl, rfl, by omega, ?_⟩
      refine ⟨_, rfl, b, _, _, _, rfl, rfl, SqL.of hb, rfl, _, rfl, _, _, rfl, rfl, ⟨by omega, by omega⟩, ?_⟩
      refine ⟨_, rfl, b, _, _, _, rfl, rfl, hb, rfl, _, rfl, ?_⟩
      refine k _ _ (f0 _) (f1 _) ⟨_, y, z, upd_same, Int.fdiv_nonneg x0 (by omega), y0, y1⟩ fun c o e n => ?_
      rw [upd_ne n]
      exact e
    · refine ⟨_, rfl, b, _, _, _, rfl, rfl, SqL.of hb, rfl, _, _, rfl, rfl, _, rfl, b, _, _, _, rfl, rfl, hb, rfl, ?_⟩
      refine ⟨_, rfl, b, _, _, _, rfl, rfl, SqL.of upd_same, rfl, _, _, rfl, rfl, Or.inr ⟨by decide, by decide⟩, _, rfl, b, _, _, _, rfl, rfl, SqL.of upd_same, rfl, _, _, rfl, rfl, Or.inl ⟨by decide, by decide⟩,
        _, _, rfl, rfl, _, _, rfl, rfl, _, _, rfl, rfl, (by show (0 : Int) < 2147483647; decide), _, rfl, b, _, _, _, rfl, rfl, upd_same, rfl, ?_⟩
      have y2 := Int.emod_nonneg (y * 69621 + 7411 * (z + 1) + 29) (show (2147483647 : Int) ≠ 0 by decide)
      have y3 := Int.emod_lt_of_pos (y * 69621 + 7411 * (z + 1) + 29) (show (0 : Int) < 2147483647 by decide)
      refine ⟨_, rfl, b, _, _, _, rfl, rfl, SqL.of upd_same, rfl, _, _, rfl, rfl, ⟨by decide, by decide⟩, _, _, rfl, rfl, ⟨by decide, by decide, ?_⟩, _, _, rfl, rfl, (by show (0 : Int) < 1048573; decide), _, _, rfl, rfl, ⟨by decide, by decide⟩, _, rfl, _, _, rfl, rfl, by omega, ?_⟩
      · show ((y * 69621 + 7411 * (z + 1) + 29) % 2147483647 / 32).natAbs < 2 ^ 64
        omega
      · refine k _ _ (f0 _) (f1 _) ⟨x, (y * 69621 + 7411 * (z + 1) + 29) % 2147483647, z + 1, upd_same, x0, y2, y3⟩ fun c o e n => ?_
        rw [upd_ne n, upd_ne n]
        exact e
end
abbrev sBag : Stmt := top 9
abbrev sNames : Stmt := top 11
theorem But.refl (b : Addr) (H : Hp) : But b H H := fun _ _ e _ => e
theorem But.trans {b : Addr} {H H1 H2 : Hp} (x : But b H H1) (y : But b H1 H2) : But b H H2 := fun c o e n => y c o (x c o e n) n
theorem But.new {b p : Addr} {H : Hp} {o : HO} (hp : H p = none) : But b H (upd H p o) := fun c u e _ => by
  rw [upd_ne (ne_of_none e hp)]
  exact e
/-- a new object p, changed later -/
theorem But.newer {b p : Addr} {H H1 : Hp} {o : HO} (hp : H p = none) (x : But b H H1) : But b H (upd H1 p o) := fun c u e n => by
  rw [upd_ne (ne_of_none e hp)]
  exact x c u e n
theorem Bag.new {b p : Addr} {H : Hp} {o : HO} (h : Bag H b) (hp : p ≠ b) : Bag (upd H p o) b := by
  obtain ⟨x, y, z, e, r⟩ := h
  refine ⟨x, y, z, ?_, r⟩
  rw [upd_ne hp.symm]
  exact e
theorem Bag.ne {b p : Addr} {H : Hp} (h : Bag H b) (hp : H p = none) : p ≠ b := by
  obtain ⟨x, y, z, e, r⟩ := h
  exact (ne_of_none e hp).symm
/-- H p = none ahead of a change that spares p's being new is not told by But: what is new is said at each call -/
def spBag (K : PySem.W.Frag) : Sp := fun vs H Q _ => ∃ (a : Addr) (ns : List Int) (at_ : Int), vs = [.ref a, .int at_] ∧ SqL K H a (ns.map V.int) ∧ ns.length ≤ 63 ∧ 0 ≤ at_ ∧ at_ < 1000 ∧
  ∀ (b : Addr) (H' : Hp), H b = none → Bag H' b → Same H H' → Q (.ref b) H'
section
variable {P : Program} {w : World} {K : PySem.W.Frag} {mg : Str → Option Value} {base : Heap}
theorem scBag : FnScope ["_law_script", "_law_at", "_law_cell", "_law_far", "_law_seed"] ["_law_script", "_law_at"] (defScope sBag) := ⟨rfl, rfl, rfl, by decide +kernel, rfl, by decide +kernel, by decide +kernel⟩
theorem ok_bag {f : Addr} {fd : FuncData} (F : Fun K "_law_bag" "_law_bag" sBag f fd) (gLen : mg "len" = none) (gAbs : mg "abs" = none) (gInt : mg "int" = none) :
    FnOk P w K mg base CX0 1 f fd ["_law_script", "_law_at"] (spBag K) := by
  refine F.ok scBag (fun vs H Q E h => ?_) (fun cdv A outer s H vs Q E hr h => ?_)
  · obtain ⟨a, ns, i, rfl, _⟩ := h
    rfl
  · obtain ⟨a, ns, i, rfl, hS, hl, i0, i1, k⟩ := h
    refine ⟨_, pss_cons (ps_set (i := 2) scBag.nd rfl (Or.inl rfl) (pe_ifExp (pt_cmpR op_lt (pv 1) (pe_callB call_len_seq (by rfl) gLen PySem.boot_len (pa_cons (pv 0) pa_nil)) (nomark _)) (pe_ix ix_list (pv 0) (pv 1) (fun _ _ => rfl)) pe_int))
      (pss_cons (ps_set (i := 3) scBag.nd rfl (Or.inl rfl) (pe_callB call_abs (by rfl) gAbs (by decide +kernel) (pa_cons (pv 2) pa_nil)))
      (pss_cons (ps_set (i := 4) scBag.nd rfl (Or.inl rfl) (pe_op op_mod (pe_op op_add (pe_op op_add (pe_op op_mul (pe_op op_mod (pv 2) pe_int) pe_int) (pe_op op_mul pe_int (pv 1))) pe_int) pe_int))
      (pss_one (ps_ret (pe_lst (pa_cons (pe_op op_mul (pv 3) (pe_callTy call_int1 (by rfl) gInt (by decide +kernel) (pa_cons (pe_cmpR op_ge (pv 3) (pe_op op_pow pe_int pe_int) (nomark _)) pa_nil))) (pa_cons (pv 4) (pa_cons pe_int pa_nil)))))))), ?_⟩
    refine ⟨_, rfl, _, rfl, a, _, rfl, Or.inl hS, _, _, rfl, rfl, _, rfl, ?_⟩
    refine ite2 (fun c => ?_) (fun c => ?_)
    · have c1 := of_decide_eq_true c
      obtain ⟨j, rfl⟩ := Int.eq_ofNat_of_zero_le i0
      rw [List.length_map] at c1
      have c2 : j < ns.length := by omega
      have e : (ns.map V.int)[j]? = some (V.int ns[j]) := by
        rw [List.getElem?_map, List.getElem?_eq_getElem c2]
        rfl
      refine ⟨_, rfl, _, rfl, a, _, _, _, rfl, rfl, hS, atI_nat e, ?_⟩
      generalize ns[j] = cell
      generalize (j : Int) = i at *
      refine ⟨_, rfl, _, rfl, ?_⟩
      have far : 0 ≤ (if cell < 0 then -cell else cell) := by split <;> omega
      generalize (if cell < 0 then -cell else cell) = far_ at *
      have y2 := Int.emod_nonneg (cell % 2147483647 * 48271 + 9173 * i + 89155) (show (2147483647 : Int) ≠ 0 by decide)
      have y3 := Int.emod_lt_of_pos (cell % 2147483647 * 48271 + 9173 * i + 89155) (show (0 : Int) < 2147483647 by decide)
      have z2 := Int.emod_nonneg cell (show (2147483647 : Int) ≠ 0 by decide)
      have z3 := Int.emod_lt_of_pos cell (show (0 : Int) < 2147483647 by decide)
      refine ⟨_, rfl, _, _, rfl, rfl, (by show (0 : Int) < 2147483647; decide), _, _, rfl, rfl, Or.inr ⟨by decide, by decide⟩, _, rfl, _, _, rfl, rfl, Or.inl ⟨by decide, by decide⟩, _, _, rfl, rfl, _, _, rfl, rfl, _, _, rfl, rfl, (by show (0 : Int) < 2147483647; decide), ?_⟩
      refine ⟨_, rfl, _, rfl, _, _, rfl, rfl, ⟨by decide, by decide, by decide⟩, _, _, rfl, rfl, Or.inr ⟨_, rfl, ?_⟩⟩
      by_cases big : (10 : Int) ^ (18 : Int).toNat ≤ far_
      all_goals
        simp only [big, decide_true, decide_false, if_true, if_false, Bool.false_eq_true]
        refine ⟨_, _, rfl, rfl, Or.inr ⟨by decide, by decide⟩, _, rfl, (by show 3 ≤ sizeLine; decide), fun p hp => ?_⟩
        refine k p _ hp ⟨_, _, 0, upd_same, by omega, y2, y3⟩ fun b o e => ?_
        rw [upd_ne (ne_of_none e hp)]
        exact e
    · refine ⟨_, rfl, _, rfl, ?_⟩
      have far : 0 ≤ (if (0 : Int) < 0 then -(0 : Int) else (0 : Int)) := by split <;> omega
      generalize (if (0 : Int) < 0 then -(0 : Int) else (0 : Int)) = far_ at *
      have y2 := Int.emod_nonneg ((0 : Int) % 2147483647 * 48271 + 9173 * i + 89155) (show (2147483647 : Int) ≠ 0 by decide)
      have y3 := Int.emod_lt_of_pos ((0 : Int) % 2147483647 * 48271 + 9173 * i + 89155) (show (0 : Int) < 2147483647 by decide)
      have z2 := Int.emod_nonneg (0 : Int) (show (2147483647 : Int) ≠ 0 by decide)
      have z3 := Int.emod_lt_of_pos (0 : Int) (show (0 : Int) < 2147483647 by decide)
      refine ⟨_, rfl, _, _, rfl, rfl, (by show (0 : Int) < 2147483647; decide), _, _, rfl, rfl, Or.inr ⟨by decide, by decide⟩, _, rfl, _, _, rfl, rfl, Or.inl ⟨by decide, by decide⟩, _, _, rfl, rfl, _, _, rfl, rfl, _, _, rfl, rfl, (by show (0 : Int) < 2147483647; decide), ?_⟩
      refine ⟨_, rfl, _, rfl, _, _, rfl, rfl, ⟨by decide, by decide, by decide⟩, _, _, rfl, rfl, Or.inr ⟨_, rfl, ?_⟩⟩
      by_cases big : (10 : Int) ^ (18 : Int).toNat ≤ far_
      all_goals
        simp only [big, decide_true, decide_false, if_true, if_false, Bool.false_eq_true]
        refine ⟨_, _, rfl, rfl, Or.inr ⟨by decide, by decide⟩, _, rfl, (by show 3 ≤ sizeLine; decide), fun p hp => ?_⟩
        refine k p _ hp ⟨_, _, 0, upd_same, by omega, y2, y3⟩ fun b o e => ?_
        rw [upd_ne (ne_of_none e hp)]
        exact e
end
/-! ### names -/
def Low (x : Str) : Prop := ∀ c ∈ x.cps.toList, 97 ≤ c ∧ c ≤ 122
def letters : Str := "abcdefghijklmnopqrstuvwxyz"
def taken : List Str := ["self", "other", "super", "raises"]
structure Good (x : Str) : Prop where
  one : 1 ≤ x.length
  six : x.length ≤ 6
  low : Low x
  free : x ∉ taken
theorem letter_all : ∀ i : _root_.Fin 26, (atI letters.cps.toList (i.val : Int)).any (fun c => decide (97 ≤ c) && decide (c ≤ 122)) = true := by decide +kernel
theorem letter (r : Int) (h0 : 0 ≤ r) (h1 : r < 26) : ∃ c, atI letters.cps.toList r = some c ∧ 97 ≤ c ∧ c ≤ 122 := by
  obtain ⟨j, rfl⟩ := Int.eq_ofNat_of_zero_le h0
  have h := letter_all ⟨j, by omega⟩
  dsimp only at h
  cases e : atI letters.cps.toList (j : Int) with
  | none =>
    rw [e] at h
    cases h
  | some c =>
    rw [e] at h
    simp at h
    exact ⟨c, rfl, h⟩
theorem app_cps (a y : Str) : (a ++ y).cps.toList = a.cps.toList ++ y.cps.toList := PySem.W.KT.app_list a y
theorem low_app {a y : Str} (h1 : Low a) (h2 : Low y) : Low (a ++ y) := fun c hc => by
  rw [app_cps] at hc
  exact (List.mem_append.mp hc).elim (h1 c) (h2 c)
theorem low_one {c : Nat} (h : 97 ≤ c ∧ c ≤ 122) : Low ⟨#[c]⟩ := fun d hd => by
  have e : d = c := by simpa using hd
  rw [e]
  exact h
theorem low_join : ∀ l : List Str, (∀ x ∈ l, Low x ∧ x.length = 1) → Low (Str.join Str.empty l) ∧ (Str.join Str.empty l).length = l.length
  | [], _ => ⟨fun c hc => by simp [Str.join, Str.empty] at hc, rfl⟩
  | [x], h => ⟨(h x (List.mem_singleton.mpr rfl)).1, (h x (List.mem_singleton.mpr rfl)).2⟩
  | x :: y :: r, h => by
    obtain ⟨h1, h2⟩ := low_join (y :: r) fun z hz => h z (List.mem_cons_of_mem _ hz)
    obtain ⟨g1, g2⟩ := h x List.mem_cons_self
    have e : Str.join Str.empty (x :: y :: r) = x ++ Str.join Str.empty (y :: r) := by
      show x ++ Str.empty ++ Str.join Str.empty (y :: r) = _
      rw [PySem.Str.append_empty]
    rw [e]
    refine ⟨low_app g1 h1, ?_⟩
    rw [PySem.strLen_append, g2, h2]
    simp only [List.length_cons]
    omega
def zs : Str := "zzzzz"
def Stem (x : Str) : Prop := Low x ∧ (x.length ≤ 2 ∨ x = zs)
theorem stem_zs : Stem zs := ⟨fun c hc => by
  have e : zs.cps.toList = [122, 122, 122, 122, 122] := by decide +kernel
  rw [e] at hc
  simp at hc
  omega, Or.inr rfl⟩
theorem stem_len {x : Str} (h : Stem x) : x.length ≤ 5 := by
  rcases h.2 with h | h
  · omega
  · rw [h]
    decide +kernel
theorem taken_len {x : Str} (h : x ∈ taken) : 4 ≤ x.length := by
  simp only [taken, List.mem_cons, List.not_mem_nil, or_false] at h
  rcases h with rfl | rfl | rfl | rfl <;> decide +kernel
theorem taken_first {x : Str} (h : x ∈ taken) : x.cps.toList.head? ≠ some 122 := by
  simp only [taken, List.mem_cons, List.not_mem_nil, or_false] at h
  rcases h with rfl | rfl | rfl | rfl <;> decide +kernel
theorem good_of {x : Str} {c : Nat} (h : Stem x) (hc : 97 ≤ c ∧ c ≤ 122) : Good (x ++ ⟨#[c]⟩) := by
  have e1 : (⟨#[c]⟩ : Str).length = 1 := rfl
  have l5 := stem_len h
  refine ⟨by rw [PySem.strLen_append]; omega, by rw [PySem.strLen_append]; omega, low_app h.1 (low_one hc), fun t => ?_⟩
  rcases h.2 with s | s
  · have := taken_len t
    rw [PySem.strLen_append] at this
    omega
  · refine taken_first t ?_
    rw [s, app_cps]
    have e : zs.cps.toList = [122, 122, 122, 122, 122] := by decide +kernel
    rw [e]
    rfl
theorem But.free {b p : Addr} {H H' : Hp} (x : But b H H') (h : Bag H' b) (hp : H' p = none) : H p = none := by
  have ne := h.ne hp
  cases e : H p with
  | none => rfl
  | some o =>
    rw [x p o e ne] at hp
    cases hp
theorem pace4 (r : Int) (h0 : 0 ≤ r) (h1 : r < 4) : ∃ v : Int, atI [V.int 1, V.int 3, V.int 5, V.int 25] r = some (.int v) ∧ (v = 1 ∨ v = 3 ∨ v = 5 ∨ v = 25) := by
  have c : r = 0 ∨ r = 1 ∨ r = 2 ∨ r = 3 := by omega
  rcases c with rfl | rfl | rfl | rfl
  · exact ⟨1, rfl, .inl rfl⟩
  · exact ⟨3, rfl, .inr (.inl rfl)⟩
  · exact ⟨5, rfl, .inr (.inr (.inl rfl))⟩
  · exact ⟨25, rfl, .inr (.inr (.inr rfl))⟩
/-- the j-th name -/
def ltr (r : Int) : Nat := letters.cps.toList.getD r.toNat 0
theorem ltr_at (r : Int) (h0 : 0 ≤ r) (h1 : r < 26) : atI letters.cps.toList r = some (ltr r) := by
  have h : ∀ i : _root_.Fin 26, atI letters.cps.toList (i.val : Int) = some (ltr (i.val : Int)) := by decide +kernel
  obtain ⟨j, rfl⟩ := Int.eq_ofNat_of_zero_le h0
  exact h ⟨j, by omega⟩
theorem ltr_low (r : Int) (h0 : 0 ≤ r) (h1 : r < 26) : 97 ≤ ltr r ∧ ltr r ≤ 122 := by
  obtain ⟨c, h, h2⟩ := letter r h0 h1
  rw [ltr_at r h0 h1] at h
  cases h
  exact h2
theorem ltr_inj (r q : Int) (h0 : 0 ≤ r) (h1 : r < 26) (g0 : 0 ≤ q) (g1 : q < 26) (e : ltr r = ltr q) : r = q := by
  have h : ∀ i : _root_.Fin 26, ltr (i.val : Int) = 97 + i.val := by decide +kernel
  obtain ⟨i, rfl⟩ := Int.eq_ofNat_of_zero_le h0
  obtain ⟨j, rfl⟩ := Int.eq_ofNat_of_zero_le g0
  have a := h ⟨i, by omega⟩
  have b := h ⟨j, by omega⟩
  dsimp only at a b
  omega
def nmj (st : Str) (first pace : Int) (j : Nat) : Str := st ++ ⟨#[ltr ((first + pace * (0 + (j : Int))) % 26)]⟩
theorem nmj_inj {st : Str} {first pace : Int} (hp : pace = 1 ∨ pace = 3 ∨ pace = 5 ∨ pace = 25) {i j : Nat} (hi : i < 26) (hj : j < 26) (e : nmj st first pace i = nmj st first pace j) : i = j := by
  have e1 := congrArg (fun x : Str => x.cps.toList) e
  simp only [nmj, app_cps] at e1
  have e2 := List.append_cancel_left e1
  have e3 : ltr ((first + pace * (0 + (i : Int))) % 26) = ltr ((first + pace * (0 + (j : Int))) % 26) := by simpa using e2
  have e4 := ltr_inj _ _ (Int.emod_nonneg _ (by decide)) (Int.emod_lt_of_pos _ (by decide)) (Int.emod_nonneg _ (by decide)) (Int.emod_lt_of_pos _ (by decide)) e3
  rcases hp with rfl | rfl | rfl | rfl <;> omega
theorem nodup_mapN {α : Type} {f : Nat → α} : ∀ n : Nat, (∀ i j, i < n → j < n → f i = f j → i = j) → ((List.range n).map f).Nodup
  | 0, _ => List.nodup_nil
  | n + 1, h => by
    rw [List.range_succ, List.map_append, List.nodup_append]
    refine ⟨nodup_mapN n fun i j hi hj => h i j (by omega) (by omega), by simp, ?_⟩
    intro a ha b hb
    obtain ⟨i, hi, rfl⟩ := List.mem_map.mp ha
    have hi := List.mem_range.mp hi
    have eb : b = f n := by simpa using hb
    rw [eb]
    intro z
    have := h i n (by omega) (by omega) z
    omega
def spNames : Sp := fun vs H Q _ => ∃ (b : Addr) (m : Int), vs = [.ref b, .int m] ∧ 0 < m ∧ m < 60 ∧ Bag H b ∧
  ∀ (p : Addr) (ns : List Str) (H' : Hp), H p = none → (ns.length : Int) = m → (∀ x ∈ ns, Good x) → (m ≤ 26 → ns.Nodup) → H' p = some (.lst (ns.map V.str)) → Bag H' b → But b H H' → Q (.ref p) H'
section
variable {P : Program} {w : World} {K : PySem.W.Frag} {mg : Str → Option Value} {base : Heap}
abbrev nNames : List Str := ["_law_bag_here", "_law_many", "_law_letters", "_law_stem", "_law_first", "_law_pace", "_law_turn"]
theorem scNames : FnScope nNames ["_law_bag_here", "_law_many"] (defScope sNames) := ⟨rfl, rfl, rfl, by decide +kernel, rfl, by decide +kernel, by decide +kernel⟩
theorem ok_names {f fT : Addr} {fd fdT : FuncData} (F : Fun K "_law_names" "_law_names" sNames f fd) (GT : FnOk P w K mg base CX0 1 fT fdT ["_law_bag_here", "_law_many"] spTake)
    (bT : Binds K fdT ["_law_bag_here", "_law_many"] []) (mT : mg "_law_take" = some (.ref fT)) (kT : PySem.W.keepIn K (.ref fT) = true) (gRange : mg "range" = none) (gSorted : mg "sorted" = none) :
    FnOk P w K mg base CX0 2 f fd ["_law_bag_here", "_law_many"] spNames := by
  refine F.ok scNames (fun vs H Q E h => ?_) (fun cdv A outer s H vs Q E hr h => ?_)
  · obtain ⟨b, m, rfl, _⟩ := h
    rfl
  · obtain ⟨b, m, rfl, m0, m1, hb, k⟩ := h
    refine ⟨_, pss_cons (ps_set (i := 2) scNames.nd rfl (Or.inr rfl) pe_str)
      (pss_cons (ps_set (i := 3) scNames.nd rfl (Or.inr rfl) (pe_join pe_str
        (pe_lc (own := [("_law_turn", 6)]) (g := gName 6) (tt := tYes) rfl scNames.nd (pi_range1 (by rfl) gRange (pa_cons (pe_call GT hr rfl mT kT bT .nil pass0 (pa_cons (pv 0) (pa_cons pe_int pa_nil))) pa_nil))
          (blkOk_by (N := nNames) (sc := defScope sNames) (by decide +kernel)) (fun _ _ _ _ _ => pg_name (i := 6) scNames.nd rfl (Or.inl rfl)) (fun _ _ _ _ _ => pts_nil)
          (fun _ _ _ _ _ => pe_ix ix_str (pv 2) (pe_call GT hr rfl mT kT bT .nil pass0 (pa_cons (pv 0) (pa_cons pe_int pa_nil))) (fun _ _ => rfl)))))
      (pss_cons (ps_if (pt_cmpR op_eq (pe_call GT hr rfl mT kT bT .nil pass0 (pa_cons (pv 0) (pa_cons pe_int pa_nil))) pe_int (nomark _)) (pss_one (ps_set (i := 3) scNames.nd rfl (Or.inr rfl) pe_str)) pss_nil)
      (pss_cons (ps_asg (pe_tup (pa_cons (pe_call GT hr rfl mT kT bT .nil pass0 (pa_cons (pv 0) (pa_cons pe_int pa_nil)))
          (pa_cons (pe_ix ix_list (pe_lst (pa_cons pe_int (pa_cons pe_int (pa_cons pe_int (pa_cons pe_int pa_nil))))) (pe_call GT hr rfl mT kT bT .nil pass0 (pa_cons (pv 0) (pa_cons pe_int pa_nil))) (fun _ _ => rfl)) pa_nil)))
          (pg_tup rfl (pgs_cons (pg_name (i := 4) scNames.nd rfl (Or.inr rfl)) (pgs_cons (pg_name (i := 5) scNames.nd rfl (Or.inr rfl)) pgs_nil))))
      (pss_one (ps_ret (pe_callB cr_sortedS (by rfl) gSorted (by decide +kernel) (pa_cons
        (pe_lc (own := [("_law_turn", 6)]) (g := gName 6) (tt := tYes) rfl scNames.nd (pi_range1 (by rfl) gRange (pa_cons (pv 1) pa_nil))
          (blkOk_by (N := nNames) (sc := defScope sNames) (by decide +kernel)) (fun _ _ _ _ _ => pg_name (i := 6) scNames.nd rfl (Or.inl rfl)) (fun _ _ _ _ _ => pts_nil)
          (fun _ _ _ _ _ => pe_op op_add_str (pv 3) (pe_ix ix_str (pv 2) (pe_op op_mod (pe_op op_add (pv 4) (pe_op op_mul (pv 5) (pv 6))) pe_int) (fun _ _ => rfl)))) pa_nil))))))), ?_⟩
    -- the stem
    refine ⟨⟨_, rfl⟩, _, rfl, b, 3, rfl, by decide, by decide, hb, fun r H1 r0 r1 hb1 k1 => ⟨r, rfl, by omega, by omega, fun D hD => ?_⟩⟩
    have ne1 : D ≠ b := hb1.ne hD
    refine lc_range (lo := 0) (n := r.toNat) (fun i H2 => ∃ acc : List Str, acc.length = i ∧ (∀ x ∈ acc, Low x ∧ x.length = 1) ∧ H2 D = some (.lst (acc.map V.str)) ∧ Bag H2 b ∧ But b H1 H2)
      ⟨[], rfl, by simp, upd_same, hb1.new ne1, But.new hD⟩ ?_ ?_
    · intro i H2 hi ⟨acc, e1, e2, e3, e4, e5⟩
      refine ⟨rfl, _, rfl, _, rfl, b, 26, rfl, by decide, by decide, e4, fun q H3 q0 q1 hb3 k3 => ?_⟩
      obtain ⟨c, hc, hc2⟩ := letter q q0 q1
      refine ⟨letters, q, c, rfl, rfl, by decide +kernel, hc, _, k3 _ _ e3 ne1, ?_, acc ++ [⟨#[c]⟩], by simp [e1], ?_, ?_, hb3.new ne1, ?_⟩
      · rw [List.length_map, e1]
        exact small1000 (by omega)
      · intro x hx
        rcases List.mem_append.mp hx with hx | hx
        · exact e2 x hx
        · rw [List.mem_singleton.mp hx]
          exact ⟨low_one hc2, rfl⟩
      · rw [upd_same, List.map_append]
        rfl
      · exact But.newer hD (e5.trans k3)
    · intro H2 ⟨acc, e1, e2, e3, hb2, k2⟩
      refine ⟨_, D, acc, rfl, rfl, Or.inl (SqL.of e3), ?_, ?_⟩
      · have e : (acc.map fun x => x.length).sum = acc.length := by
          clear e1 e3
          induction acc with
          | nil => rfl
          | cons x l ih =>
            rw [List.map_cons, List.sum_cons, ih fun z hz => e2 z (List.mem_cons_of_mem _ hz), (e2 x List.mem_cons_self).2, List.length_cons]
            omega
        have z : (Str.ofString "").length = 0 := rfl
        rw [e, z, e1]
        omega
      · have hst : Stem (Txt.join (Str.ofString "") acc) := by
          have q := low_join acc e2
          have ej : Txt.join (Str.ofString "") acc = Str.join Str.empty acc := StrLaws.glued_eq_join _ _
          rw [ej]
          exact ⟨q.1, Or.inl (by rw [q.2, e1]; omega)⟩
        generalize Txt.join (Str.ofString "") acc = st0 at hst ⊢
        have k12 := k1.trans k2
        clear k1 k2 hb hb1
        refine ⟨_, rfl, b, 5, rfl, by decide, by decide, hb2, fun q H3 q0 q1 hb3 k3 => ⟨rfl, _, rfl, ?_⟩⟩
        have kk := k12.trans k3
        refine ite2 (fun c => ?_) (fun c => ?_)
        have hs : Stem (Str.ofString "zzzzz") := stem_zs
        generalize (Str.ofString "zzzzz") = st at hs ⊢
        rotate_left
        have hs := hst
        generalize st0 = st at hs ⊢
        all_goals
          -- first, pace
          refine ⟨_, rfl, b, 26, rfl, by decide, by decide, hb3, fun first H4 f0 f1 hb4 k4 => ⟨by decide, fun L hL => ?_⟩⟩
          have neL : L ≠ b := hb4.ne hL
          refine ⟨_, rfl, b, 4, rfl, by decide, by decide, hb4.new neL, fun q5 H5 q50 q51 hb5 k5 => ?_⟩
          obtain ⟨pace, p1, hpace⟩ := pace4 q5 q50 q51
          have p2 : 0 ≤ pace := by omega
          have p3 : pace ≤ 25 := by omega
          have kL := kk.trans (k4.trans ((But.new hL).trans k5))
          refine ⟨L, _, _, _, rfl, rfl, SqL.of (k5 _ _ upd_same neL), p1, (by show 2 ≤ sizeLine; decide), fun t ht => ?_⟩
          have net : t ≠ b := hb5.ne ht
          refine ⟨t, _, rfl, SqT.of upd_same, rfl, _, _, rfl, _, _, rfl, rfl, ?_⟩
          -- the names
          have kt := kL.trans (But.new (b := b) (o := HO.tup [V.int first, V.int pace]) ht)
          have hb6 := hb5.new (o := HO.tup [V.int first, V.int pace]) net
          refine ⟨_, rfl, m, rfl, by omega, by omega, fun G hG => ?_⟩
          have neG : G ≠ b := hb6.ne hG
          refine lc_range (lo := 0) (n := m.toNat) (fun i H7 => H7 G = some (.lst (((List.range i).map (nmj st first pace)).map V.str)) ∧ Bag H7 b ∧ But b H H7)
            ⟨upd_same, hb6.new neG, kt.trans (But.new hG)⟩ ?_ ?_
          · intro i H7 hi ⟨a3, a4, a5⟩
            have w0 := Int.emod_nonneg (first + pace * (0 + (i : Int))) (show (26 : Int) ≠ 0 by decide)
            have w1 := Int.emod_lt_of_pos (first + pace * (0 + (i : Int))) (show (0 : Int) < 26 by decide)
            refine ⟨rfl, _, rfl, _, rfl, _, rfl, _, rfl, _, rfl, _, _, rfl, rfl, Or.inl ⟨by omega, by omega⟩, _, _, rfl, rfl, _, _, rfl, rfl, (by show (0 : Int) < 26; decide),
              letters, _, _, rfl, rfl, by decide +kernel, ltr_at _ w0 w1, _, _, rfl, rfl, ?_, _, a3, ?_, ?_, a4.new neG, ?_⟩
            · have := stem_len hs
              have e1 : (⟨#[ltr ((first + pace * (0 + (i : Int))) % 26)]⟩ : Str).length = 1 := rfl
              rw [e1]
              exact Nat.le_of_lt (small1000 (by omega))
            · rw [List.length_map, List.length_map, List.length_range]
              exact small1000 (by omega)
            · rw [upd_same, List.range_succ, List.map_append, List.map_append]
              rfl
            · exact But.newer (kt.free hb6 hG) a5
          · intro H7 ⟨a3, a4, a5⟩
            refine ⟨G, _, rfl, SqL.of a3, by rw [List.length_map, List.length_range]; omega, fun ys p perm _ hp => ?_⟩
            have nep : p ≠ b := a4.ne hp
            refine k p ys _ (a5.free a4 hp) ?_ (fun x hx => ?_) (fun h26 => perm.nodup_iff.mpr (nodup_mapN _ fun i j hi hj e => nmj_inj hpace (by omega) (by omega) e)) upd_same (a4.new nep) (a5.trans (But.new hp))
            · rw [perm.length_eq, List.length_map, List.length_range]
              omega
            · obtain ⟨j, hj, rfl⟩ := List.mem_map.mp (perm.mem_iff.mp hx)
              exact good_of hs (ltr_low _ (Int.emod_nonneg _ (by decide)) (Int.emod_lt_of_pos _ (by decide)))
end
abbrev sTree : Stmt := top 14
/-- len of a list or a tuple, the written part by name -/
def rLen (K : PySem.W.Frag) : List V → Hp → VK → Prop := fun xs H Q => ∃ p ys, xs = [.ref p] ∧ (SqL K H p ys ∨ SqT K H p ys) ∧ Q (.int ys.length) H
theorem call_lenK {X : Cx} : CallR X (.builtin "len") (rLen X.K) := call_len_seq
/-! ### trees -/
inductive T where
  | leaf (x : Str)
  | node (l r : T)
def T.row : T → List Str
  | .leaf x => [x]
  | .node l r => l.row ++ r.row
theorem T.row_ne (t : T) : 1 ≤ t.row.length := by
  induction t with
  | leaf x => exact Nat.le_refl _
  | node l r h1 h2 =>
    simp only [T.row, List.length_append]
    omega
def TreeAt (H : Hp) : V → T → Prop
  | v, .leaf x => v = .str x
  | v, .node l r => ∃ (p : Addr) (a c : V), v = .ref p ∧ H p = some (.tup [a, c]) ∧ TreeAt H a l ∧ TreeAt H c r
theorem TreeAt.keep {H H' : Hp} (k : ∀ p xs, H p = some (.tup xs) → H' p = some (.tup xs)) : ∀ {t : T} {v : V}, TreeAt H v t → TreeAt H' v t
  | .leaf _, _, h => h
  | .node _ _, _, ⟨p, a, c, e, h, h1, h2⟩ => ⟨p, a, c, e, k _ _ h, TreeAt.keep k h1, TreeAt.keep k h2⟩
theorem TreeAt.but {H H' : Hp} {b : Addr} {t : T} {v : V} (h : TreeAt H v t) (hb : Bag H b) (k : But b H H') : TreeAt H' v t :=
  h.keep fun p xs e => k p _ e fun z => by
    obtain ⟨x, y, w, q, _⟩ := hb
    rw [z, q] at e
    cases e
theorem TreeAt.same {H H' : Hp} {t : T} {v : V} (h : TreeAt H v t) (k : Same H H') : TreeAt H' v t := h.keep fun p xs e => k p _ e
theorem TreeAt.new {H : Hp} {p : Addr} {o : HO} {t : T} {v : V} (h : TreeAt H v t) (hp : H p = none) : TreeAt (upd H p o) v t := h.keep fun q xs e => by
  rw [upd_ne (ne_of_none e hp)]
  exact e
def spTree (n : Nat) : Sp := fun vs H Q _ => ∃ (b a : Addr) (row : List Str), vs = [.ref b, .ref a] ∧ Bag H b ∧ H a = some (.tup (row.map V.str)) ∧ 1 ≤ row.length ∧ row.length ≤ n ∧ n ≤ 200 ∧
  ∀ (v : V) (t : T) (H' : Hp), TreeAt H' v t → t.row = row → Bag H' b → But b H H' → Q v H'
theorem cut_lo (xs : List V) (k : Nat) (h : k ≤ xs.length) : cutV xs none (some (k : Int)) = xs.take k := by
  unfold cutV
  rw [HT.sIx_none, HT.sIx_nat, Nat.min_eq_left h, List.drop_zero]
  rfl
theorem cut_hi (xs : List V) (k : Nat) (h : k ≤ xs.length) : cutV xs (some (k : Int)) none = xs.drop k := by
  unfold cutV
  rw [HT.sIx_none, HT.sIx_nat, Nat.min_eq_left h, List.take_of_length_le]
  rw [List.length_drop]
  exact Nat.le_refl _
section
variable {P : Program} {w : World} {K : PySem.W.Frag} {mg : Str → Option Value} {base : Heap}
theorem scTree : FnScope ["_law_bag_here", "_law_row", "_law_size"] ["_law_bag_here", "_law_row"] (defScope sTree) := ⟨rfl, rfl, rfl, by decide +kernel, rfl, by decide +kernel, by decide +kernel⟩
theorem ok_tree {f fT : Addr} {fd fdT : FuncData} (F : Fun K "_law_tree" "_law_tree" sTree f fd) (b0 : Binds K fd ["_law_bag_here", "_law_row"] []) (m0 : mg "_law_tree" = some (.ref f))
    (GT : FnOk P w K mg base CX0 1 fT fdT ["_law_bag_here", "_law_many"] spTake)
    (bT : Binds K fdT ["_law_bag_here", "_law_many"] []) (mT : mg "_law_take" = some (.ref fT)) (kT : PySem.W.keepIn K (.ref fT) = true) (gLen : mg "len" = none) :
    ∀ n : Nat, FnOk P w K mg base CX0 (n + 1) f fd ["_law_bag_here", "_law_row"] (spTree n)
  | 0 => ⟨fun vs H Q E h => (by obtain ⟨b, a, row, rfl, _⟩ := h; rfl), fun A outer s H args us vs Q E _ _ _ _ h => (by obtain ⟨b, a, row, _, _, _, h1, h2, _⟩ := h; omega)⟩
  | n + 1 => by
    have GR := ok_tree F b0 m0 GT bT mT kT gLen n
    refine F.ok scTree (fun vs H Q E h => ?_) (fun cdv A outer s H vs Q E hr h => ?_)
    · obtain ⟨b, a, row, rfl, _⟩ := h
      rfl
    · obtain ⟨b, a, row, rfl, hb, ha, l1, l2, l3, k⟩ := h
      have hr1 : Room 1 _ := hr.mono (by omega)
      refine ⟨_, pss_cons (ps_if (pt_cmpR op_eq (pe_callB call_len_seq (by rfl) gLen PySem.boot_len (pa_cons (pv 1) pa_nil)) pe_int (nomark _)) (pss_one (ps_ret (pe_ix ix_tup (pv 1) pe_int (fun _ _ => rfl)))) pss_nil)
        (pss_cons (ps_set (i := 2) scTree.nd rfl (Or.inl rfl) (pe_op op_add pe_int (pe_call GT hr1 rfl mT kT bT .nil pass0 (pa_cons (pv 0) (pa_cons (pe_op op_sub (pe_callB call_len_seq (by rfl) gLen PySem.boot_len (pa_cons (pv 1) pa_nil)) pe_int) pa_nil)))))
        (pss_one (ps_ret (pe_tup (pa_cons (pe_call GR hr rfl m0 F.kp b0 .nil pass0 (pa_cons (pv 0) (pa_cons (pe_slice sl_tup (pv 1) po_none (po_some (pv 2))) pa_nil)))
          (pa_cons (pe_call GR hr rfl m0 F.kp b0 .nil pass0 (pa_cons (pv 0) (pa_cons (pe_slice sl_tup (pv 1) (po_some (pv 2)) po_none) pa_nil))) pa_nil)))))), ?_⟩
      have nab : a ≠ b := fun z => by
        obtain ⟨x, y, w, q, _⟩ := hb
        rw [z, q] at ha
        cases ha
      refine ⟨_, rfl, a, _, rfl, Or.inr (SqT.of ha), rfl, _, rfl, ?_⟩
      refine ite2 (fun c => ?_) (fun c => ?_)
      · have c1 := of_decide_eq_true c
        rw [List.length_map] at c1
        have c2 : row.length = 1 := by
          have := V.int.inj c1
          omega
        obtain ⟨x, rfl⟩ := List.length_eq_one_iff.mp c2
        refine ⟨_, rfl, a, _, _, _, rfl, rfl, SqT.of ha, rfl, ?_⟩
        exact k _ (.leaf x) _ rfl rfl hb (But.refl _ _)
      · have c1 : ¬ V.int ((row.map V.str).length : Int) = V.int 1 := fun z => c (decide_eq_true z)
        rw [List.length_map] at c1
        have c2 : row.length ≠ 1 := fun z => c1 (by rw [z]; rfl)
        refine ⟨_, rfl, _, rfl, a, _, rfl, Or.inr (SqT.of ha), _, _, rfl, rfl, b, _, rfl, by rw [List.length_map]; omega, by rw [List.length_map]; omega, hb, fun r H1 r0 r1 hb1 k1 => ⟨_, _, rfl, rfl, ?_⟩⟩
        rw [List.length_map] at r1
        have ha1 := k1 a _ ha nab
        obtain ⟨j, rfl⟩ := Int.eq_ofNat_of_zero_le r0
        obtain ⟨z, hz⟩ : ∃ z : Nat, (1 : Int) + (j : Int) = (z : Int) := ⟨1 + j, by omega⟩
        have zl : z < row.length := by omega
        have z0 : 0 < z := by omega
        have zm : z ≤ (row.map V.str).length := by rw [List.length_map]; omega
        show gName 2 (V.int (1 + (j : Int))) _ _ _
        rw [hz]
        refine ⟨_, rfl, _, rfl, _, rfl, _, rfl, a, _, rfl, SqT.of ha1, ?_, fun p hp => ?_⟩
        · rw [HT.sIx_nat, Nat.min_eq_left zm, List.length_map]
          omega
        have nep := hb1.ne hp
        rw [cut_lo _ _ zm]
        refine ⟨b, p, row.take z, rfl, hb1.new nep, ?_, ?_, ?_, by omega, fun v1 t1 H2 h1 e1 hb2 k2 => ?_⟩
        · rw [upd_same, List.map_take]
        · rw [List.length_take]
          omega
        · rw [List.length_take]
          omega
        have ha2 := k2 a _ (by rw [upd_ne (ne_of_none ha1 hp)]; exact ha1) nab
        refine ⟨_, rfl, _, rfl, _, rfl, _, rfl, a, _, rfl, SqT.of ha2, ?_, fun q hq => ?_⟩
        · rw [HT.sIx_nat, Nat.min_eq_left zm]
          omega
        have neq := hb2.ne hq
        rw [cut_hi _ _ zm]
        refine ⟨b, q, row.drop z, rfl, hb2.new neq, ?_, ?_, ?_, by omega, fun v2 t2 H3 h2 e2 hb3 k3 => ?_⟩
        · rw [upd_same, List.map_drop]
        · rw [List.length_drop]
          omega
        · rw [List.length_drop]
          omega
        have h1' : TreeAt H3 v1 t1 := (h1.new hq).but (hb2.new neq) k3
        refine ⟨(by show 2 ≤ sizeLine; decide), fun t ht => ?_⟩
        refine k _ (.node t1 t2) _ ⟨t, v1, v2, rfl, upd_same, h1'.new ht, h2.new ht⟩ ?_ (hb3.new (hb3.ne ht)) ?_
        · simp only [T.row]
          rw [e1, e2, List.take_append_drop]
        · exact k1.trans (((But.new hp).trans k2).trans (((But.new hq).trans k3).trans (But.new ht)))
end
/-! ### data -/
mutual
inductive DatAt (H : Hp) : V → PyData → Prop
  | non : DatAt H .non .none
  | bl (b : Bool) : DatAt H (.bl b) (.bool b)
  | int (i : Int) : DatAt H (.int i) (.int i)
  | str (x : Str) : DatAt H (.str x) (.str x)
  | lst {a : Addr} {xs : List V} {ds : List PyData} : H a = some (.lst xs) → DatAll H xs ds → DatAt H (.ref a) (.list ds)
  | tup {a : Addr} {xs : List V} {ds : List PyData} : H a = some (.tup xs) → DatAll H xs ds → DatAt H (.ref a) (.tuple ds)
inductive DatAll (H : Hp) : List V → List PyData → Prop
  | nil : DatAll H [] []
  | cons {v : V} {vs : List V} {d : PyData} {ds : List PyData} : DatAt H v d → DatAll H vs ds → DatAll H (v :: vs) (d :: ds)
end
section
variable {H H' : Hp} {K : PySem.W.Frag}
mutual
theorem DatAt.dp : ∀ {v : V} {d : PyData}, DatAt H v d → Dp K H v d
  | _, _, .non => .non
  | _, _, .bl b => .bl b
  | _, _, .int i => .int i
  | _, _, .str x => .str x
  | _, _, .lst h r => .lst (SqL.of h) r.dp
  | _, _, .tup h r => .tup (SqT.of h) r.dp
theorem DatAll.dp : ∀ {vs : List V} {ds : List PyData}, DatAll H vs ds → DpAll K H vs ds
  | _, _, .nil => .nil
  | _, _, .cons h r => .cons h.dp r.dp
end
mutual
theorem DatAt.keep (k : ∀ p xs, (H p = some (.tup xs) → H' p = some (.tup xs)) ∧ (H p = some (.lst xs) → H' p = some (.lst xs))) : ∀ {v : V} {d : PyData}, DatAt H v d → DatAt H' v d
  | _, _, .non => .non
  | _, _, .bl b => .bl b
  | _, _, .int i => .int i
  | _, _, .str x => .str x
  | _, _, .lst h r => .lst ((k _ _).2 h) (DatAll.keep k r)
  | _, _, .tup h r => .tup ((k _ _).1 h) (DatAll.keep k r)
theorem DatAll.keep (k : ∀ p xs, (H p = some (.tup xs) → H' p = some (.tup xs)) ∧ (H p = some (.lst xs) → H' p = some (.lst xs))) : ∀ {vs : List V} {ds : List PyData}, DatAll H vs ds → DatAll H' vs ds
  | _, _, .nil => .nil
  | _, _, .cons h r => .cons (DatAt.keep k h) (DatAll.keep k r)
end
theorem DatAt.same {v : V} {d : PyData} (h : DatAt H v d) (k : Same H H') : DatAt H' v d := h.keep fun p xs => ⟨k p _, k p _⟩
theorem DatAll.same {v : List V} {d : List PyData} (h : DatAll H v d) (k : Same H H') : DatAll H' v d := h.keep fun p xs => ⟨k p _, k p _⟩
theorem DatAll.length : ∀ {vs : List V} {ds : List PyData}, DatAll H vs ds → vs.length = ds.length
  | _, _, .nil => rfl
  | _, _, .cons _ r => by simp [r.length]
theorem DatAll.append : ∀ {vs ws : List V} {ds es : List PyData}, DatAll H vs ds → DatAll H ws es → DatAll H (vs ++ ws) (ds ++ es)
  | _, _, _, _, .nil, r => r
  | _, _, _, _, .cons h r, q => .cons h (r.append q)
/-- the last -/
theorem DatAll.snoc : ∀ {ds : List PyData} {vs : List V} {v : V}, DatAll H (vs ++ [v]) ds → ∃ es e, ds = es ++ [e] ∧ DatAll H vs es ∧ DatAt H v e
  | _, [], _, .cons h .nil => ⟨[], _, rfl, .nil, h⟩
  | _, _ :: _, _, .cons h r => by
    obtain ⟨es, e, rfl, h1, h2⟩ := DatAll.snoc r
    exact ⟨_ :: es, e, rfl, .cons h h1, h2⟩
end
theorem Same.new {H : Hp} {p : Addr} {o : HO} (hp : H p = none) : Same H (upd H p o) := fun c u e => by
  rw [upd_ne (ne_of_none e hp)]
  exact e
/-- a new object, changed later -/
theorem Same.newer {H H1 : Hp} {p : Addr} {o : HO} (hp : H p = none) (x : Same H H1) : Same H (upd H1 p o) := fun c u e => by
  rw [upd_ne (ne_of_none e hp)]
  exact x c u e
def tyN : PyData → String
  | .none => "NoneType"
  | .bool _ => "bool"
  | .int _ => "int"
  | .str _ => "str"
  | .list _ => "list"
  | .tuple _ => "tuple"
  | .dict _ => "dict"
theorem DatAt.ty {K : PySem.W.Frag} {H : Hp} {v : V} {d : PyData} (h : DatAt H v d) : TyX K H v (.type (tyN d)) := by
  cases h with
  | non => exact .base .non
  | bl b => exact .base (.bl b)
  | int i => exact .base (.int i)
  | str x => exact .base (.str x)
  | lst h r => exact .base (.lst h)
  | tup h r => exact .base (.tup h)
def isS : PyData → Bool
  | .str _ => true
  | _ => false
def isTup : PyData → Bool
  | .tuple _ => true
  | _ => false
theorem kit_str {K : PySem.W.Frag} : ∀ d : PyData, PySem.W.kitOne K (.type (tyN d)) (.type "str") = some (isS d)
  | .none => kit_ty (show kitB "NoneType" "str" = some false by decide +kernel)
  | .bool _ => kit_ty (show kitB "bool" "str" = some false by decide +kernel)
  | .int _ => kit_ty (show kitB "int" "str" = some false by decide +kernel)
  | .str _ => kit_ty (show kitB "str" "str" = some true by decide +kernel)
  | .list _ => kit_ty (show kitB "list" "str" = some false by decide +kernel)
  | .tuple _ => kit_ty (show kitB "tuple" "str" = some false by decide +kernel)
  | .dict _ => kit_ty (show kitB "dict" "str" = some false by decide +kernel)
theorem kit_tuple {K : PySem.W.Frag} : ∀ d : PyData, PySem.W.kitOne K (.type (tyN d)) (.type "tuple") = some (isTup d)
  | .none => kit_ty (show kitB "NoneType" "tuple" = some false by decide +kernel)
  | .bool _ => kit_ty (show kitB "bool" "tuple" = some false by decide +kernel)
  | .int _ => kit_ty (show kitB "int" "tuple" = some false by decide +kernel)
  | .str _ => kit_ty (show kitB "str" "tuple" = some false by decide +kernel)
  | .list _ => kit_ty (show kitB "list" "tuple" = some false by decide +kernel)
  | .tuple _ => kit_ty (show kitB "tuple" "tuple" = some true by decide +kernel)
  | .dict _ => kit_ty (show kitB "dict" "tuple" = some false by decide +kernel)
def goodB (x : Str) : Bool := decide (1 ≤ x.length) && decide (x.length ≤ 6) && !(taken.any fun y => y == x) && x.cps.toList.all fun c => decide (97 ≤ c) && decide (c ≤ 122)
def nameB : PyData → Bool
  | .str x => goodB x
  | _ => false
def strOk : PyData → Prop
  | .str x => x.length ≤ 100000
  | _ => True
def azB (c : Nat) : Bool := decide (97 ≤ c) && decide (c ≤ 122)
theorem one_lt (c d : Nat) : decide ([c] < [d]) = decide (c < d) := by
  rw [decide_eq_decide]
  constructor
  · intro h
    rcases List.cons_lt_cons_iff.mp h with h | h
    · exact h
    · exact absurd h.2 (List.not_lt_nil _)
  · intro h
    exact List.cons_lt_cons_iff.mpr (Or.inl h)
theorem goodB_eq (x : Str) : goodB x = (decide (1 ≤ x.length) && decide (x.length ≤ 6) && !(taken.any fun y => y == x) && x.cps.toList.all azB) := rfl
theorem inV_taken (x : Str) : inV (.str x) (taken.map V.str) = taken.any fun y => y == x := by
  unfold inV
  rw [List.any_map]
  rfl
theorem smallM {n : Nat} (h : n ≤ 100000) : n < sizeLine := by
  rw [sizeLine_eq]
  omega
mutual
def isT : PyData → Bool
  | .tuple xs => xs.length == 2 && isTAll xs
  | .str x => goodB x
  | _ => false
def isTAll : List PyData → Bool
  | [] => true
  | d :: ds => isT d && isTAll ds
end
mutual
/-- the parts of tuples within tuples -/
def nd : PyData → Nat
  | .tuple xs => 1 + ndAll xs
  | _ => 1
def ndAll : List PyData → Nat
  | [] => 0
  | d :: ds => nd d + ndAll ds
end
mutual
/-- no text is too long -/
def ok : PyData → Bool
  | .tuple xs => okAll xs
  | .str x => decide (x.length ≤ 100000)
  | _ => true
def okAll : List PyData → Bool
  | [] => true
  | d :: ds => ok d && okAll ds
end
theorem nd_pos (d : PyData) : 1 ≤ nd d := by
  cases d <;> simp only [nd] <;> omega
theorem ndAll_len : ∀ ds : List PyData, ds.length ≤ ndAll ds
  | [] => Nat.le_refl _
  | d :: ds => by
    have := nd_pos d
    have := ndAll_len ds
    simp only [List.length_cons, ndAll]
    omega
theorem ndAll_app : ∀ ds es : List PyData, ndAll (ds ++ es) = ndAll ds + ndAll es
  | [], es => by simp [ndAll]
  | d :: ds, es => by
    simp only [List.cons_append, ndAll, ndAll_app ds es]
    omega
theorem isTAll_app : ∀ ds es : List PyData, isTAll (ds ++ es) = (isTAll ds && isTAll es)
  | [], es => by simp [isTAll]
  | d :: ds, es => by simp only [List.cons_append, isTAll, isTAll_app ds es, Bool.and_assoc]
theorem okAll_app : ∀ ds es : List PyData, okAll (ds ++ es) = (okAll ds && okAll es)
  | [], es => by simp [okAll]
  | d :: ds, es => by simp only [List.cons_append, okAll, okAll_app ds es, Bool.and_assoc]

theorem ok_str {d : PyData} (h : ok d = true) : strOk d := by
  cases d with
  | str x =>
    show x.length ≤ 100000
    simpa [ok] using h
  | _ => trivial

def TreeAll (H : Hp) : List V → List T → Prop
  | [], [] => True
  | v :: vs, t :: ts => TreeAt H v t ∧ TreeAll H vs ts
  | _, _ => False
theorem TreeAll.length {H : Hp} : ∀ {vs : List V} {ts : List T}, TreeAll H vs ts → vs.length = ts.length
  | [], [], _ => rfl
  | _ :: _, _ :: _, h => by simp [h.2.length]
theorem TreeAll.append {H : Hp} : ∀ {vs ws : List V} {ts us : List T}, TreeAll H vs ts → TreeAll H ws us → TreeAll H (vs ++ ws) (ts ++ us)
  | [], _, [], _, _, q => q
  | _ :: _, _, _ :: _, _, h, q => ⟨h.1, h.2.append q⟩
theorem TreeAll.snoc {H : Hp} : ∀ {vs : List V} {v : V} {ts : List T}, TreeAll H (vs ++ [v]) ts → ∃ us u, ts = us ++ [u] ∧ TreeAll H vs us ∧ TreeAt H v u
  | [], _, [u], h => ⟨[], u, rfl, trivial, h.1⟩
  | [], _, _ :: _ :: _, h => h.2.elim
  | _ :: vs, _, t :: ts, h => by
    obtain ⟨us, u, rfl, h1, h2⟩ := TreeAll.snoc (vs := vs) h.2
    exact ⟨t :: us, u, rfl, ⟨h.1, h1⟩, h2⟩
/-- the row of waiting trees, the last first -/
def rows : List T → List Str
  | [] => []
  | t :: ts => rows ts ++ t.row
theorem rows_app : ∀ ts us : List T, rows (ts ++ us) = rows us ++ rows ts
  | [], us => by simp [rows]
  | t :: ts, us => by simp only [List.cons_append, rows, rows_app ts us, List.append_assoc]
def T.size : T → Nat
  | .leaf _ => 1
  | .node l r => 1 + l.size + r.size
def sizes : List T → Nat
  | [] => 0
  | t :: ts => t.size + sizes ts
theorem sizes_app : ∀ ts us : List T, sizes (ts ++ us) = sizes ts + sizes us
  | [], us => by simp [sizes]
  | t :: ts, us => by
    simp only [List.cons_append, sizes, sizes_app ts us]
    omega
theorem T.size_pos (t : T) : 1 ≤ t.size := by
  cases t <;> simp only [T.size] <;> omega
theorem sizes_len : ∀ ts : List T, ts.length ≤ sizes ts
  | [] => Nat.le_refl _
  | t :: ts => by
    have := t.size_pos
    have := sizes_len ts
    simp only [List.length_cons, sizes]
    omega
theorem T.size_row (t : T) : t.size + 1 = 2 * t.row.length := by
  induction t with
  | leaf x => rfl
  | node l r h1 h2 =>
    simp only [T.size, T.row, List.length_append]
    omega
theorem T.row_le (t : T) : t.row.length ≤ t.size := by
  have := t.size_row
  have := t.row_ne
  omega
theorem rows_le : ∀ ts : List T, (rows ts).length ≤ sizes ts
  | [] => Nat.le_refl _
  | t :: ts => by
    have := t.row_le
    have := rows_le ts
    simp only [rows, sizes, List.length_append]
    omega

def T.depth : T → Nat
  | .leaf _ => 0
  | .node l r => max l.depth r.depth + 1
theorem T.depth_row (t : T) : t.depth < t.row.length := by
  induction t with
  | leaf x => exact Nat.zero_lt_one
  | node l r h1 h2 =>
    simp only [T.depth, T.row, List.length_append]
    omega

/-! ### how long a text data makes -/
mutual
def wt : PyData → Nat
  | .list xs => wtAll xs + 4
  | .tuple xs => wtAll xs + 4
  | .dict _ => 0
  | .none => 4
  | .bool _ => 5
  | .int i => (toString i : Str).length
  | .str x => (reprText x).length
def wtAll : List PyData → Nat
  | [] => 0
  | d :: ds => wt d + 2 + wtAll ds
end
theorem list_text (ts : List Str) : (listText ts).length ≤ piled ts + 2 := by
  cases ts with
  | nil => decide +kernel
  | cons t r =>
    have h := textFrom_length_pos r 1 (("[" : Str) ++ (if (0 : Nat) > 0 then ", " else "" : String) ++ t) (Nat.succ_pos 0)
    have e1 : ((("[" : Str) ++ (if (0 : Nat) > 0 then ", " else "" : String) ++ t)).length = 1 + t.length := by
      rw [PySem.strLen_append, PySem.strLen_append]
      rfl
    have e2 : (listText (t :: r)).length = (textFrom 1 (("[" : Str) ++ (if (0 : Nat) > 0 then ", " else "" : String) ++ t) r).length + 1 := by
      show (textFrom 0 "[" (t :: r) ++ "]").length = _
      rw [PySem.strLen_append]
      rfl
    rw [e2, h, e1, piled_cons]
    omega
mutual
theorem shown_le : ∀ d : PyData, d.hasDict = false → d.shown.length ≤ wt d
  | .none, _ => by
    simp only [PyData.shown, wt]
    decide +kernel
  | .bool b, _ => by
    cases b <;> (simp only [PyData.shown, wt]; decide +kernel)
  | .int i, _ => by
    simp only [PyData.shown, wt]
    exact Nat.le_refl _
  | .str x, _ => by
    simp only [PyData.shown, wt]
    exact Nat.le_refl _
  | .list xs, h => by
    simp only [PyData.shown, wt]
    have h1 := shownAll_le xs (by simpa [PyData.hasDict] using h)
    have h2 := list_text (PyData.shownAll xs)
    omega
  | .tuple xs, h => by
    simp only [PyData.shown, wt]
    have h1 := shownAll_le xs (by simpa [PyData.hasDict] using h)
    have h2 := PySem.fmt_text (PyData.shownAll xs)
    omega
  | .dict _, h => by simp [PyData.hasDict] at h
theorem shownAll_le : ∀ ds : List PyData, PyData.hasDictAll ds = false → piled (PyData.shownAll ds) ≤ wtAll ds
  | [], _ => by simp [PyData.shownAll, wtAll, piled]
  | d :: ds, h => by
    have h' : d.hasDict = false ∧ PyData.hasDictAll ds = false := by simpa [PyData.hasDictAll] using h
    have h1 := shown_le d h'.1
    have h2 := shownAll_le ds h'.2
    simp only [PyData.shownAll, wtAll, piled_cons]
    omega
end
/-! ### trees as data -/
def T.data : T → PyData
  | .leaf x => .str x
  | .node l r => .tuple [l.data, r.data]
theorem TreeAt.dat {H : Hp} : ∀ {t : T} {v : V}, TreeAt H v t → DatAt H v t.data
  | .leaf x, v, h => by
    cases (show v = V.str x from h)
    exact .str x
  | .node l r, v, ⟨p, a, c, e, hp, h1, h2⟩ => by
    subst e
    exact .tup hp (.cons h1.dat (.cons h2.dat .nil))
def AllGood (t : T) : Prop := ∀ x ∈ t.row, Good x
theorem AllGood.l {l r : T} (h : AllGood (.node l r)) : AllGood l := fun x hx => h x (List.mem_append_left _ hx)
theorem AllGood.r {l r : T} (h : AllGood (.node l r)) : AllGood r := fun x hx => h x (List.mem_append_right _ hx)
theorem good_B {x : Str} (h : Good x) : goodB x = true := by
  have h1 : (taken.any fun y => y == x) = false := by
    rw [List.any_eq_false]
    intro y hy z
    have e : y = x := by simpa using z
    exact h.free (e ▸ hy)
  have h2 : x.cps.toList.all azB = true := by
    rw [List.all_eq_true]
    intro c hc
    have := h.low c hc
    unfold azB
    rw [decide_eq_true this.1, decide_eq_true this.2]
    rfl
  rw [goodB_eq, decide_eq_true h.one, decide_eq_true h.six, h1, h2]
  rfl
theorem good_wt {x : Str} (h : Good x) : (reprText x).length ≤ 62 := by
  have := StrLaws.reprText_len x fun c hc => by
    have := (h.low c hc).2
    exact Nat.lt_of_le_of_lt this (by decide)
  have := h.six
  omega
theorem good_strOk {x : Str} (h : Good x) : PyData.strOk x = true := by
  unfold PyData.strOk
  rw [Array.all_eq_true']
  intro c hc
  have := (h.low c (by simpa using hc)).2
  exact decide_eq_true (by omega)
structure Fit (n w k : Nat) (d : PyData) : Prop where
  ok : ok d = true
  lay : d.canLay0 = true
  sho : d.showable = true
  dep : d.depth ≤ n
  wid : wt d ≤ w
  nod : nd d ≤ k
theorem Fit.mono {n w k n' w' k' : Nat} {d : PyData} (h : Fit n w k d) (h1 : n ≤ n') (h2 : w ≤ w') (h3 : k ≤ k') : Fit n' w' k' d :=
  ⟨h.ok, h.lay, h.sho, Nat.le_trans h.dep h1, Nat.le_trans h.wid h2, Nat.le_trans h.nod h3⟩
theorem Fit.pair {n m w u k j : Nat} {d e : PyData} (h : Fit n w k d) (g : Fit m u j e) : Fit (max n m + 1) (w + u + 8) (1 + k + j) (.tuple [d, e]) := by
  refine ⟨?_, ?_, ?_, ?_, ?_, ?_⟩
  · simp only [K88.ok, okAll, h.ok, g.ok, Bool.and_self]
  · simp only [PyData.canLay0, PyData.canLayAll0, h.lay, g.lay, Bool.and_self]
  · simp only [PyData.showable, PyData.showableAll, h.sho, g.sho, Bool.and_self]
  · have := h.dep
    have := g.dep
    simp only [PyData.depth, PyData.depthAll]
    omega
  · have := h.wid
    have := g.wid
    simp only [wt, wtAll]
    omega
  · have := h.nod
    have := g.nod
    simp only [nd, ndAll]
    omega
theorem tree_fit : ∀ t : T, AllGood t → Fit t.depth (70 * t.size) t.size t.data
  | .leaf x, h => by
    have g := h x (List.mem_singleton.mpr rfl)
    refine ⟨?_, ?_, ?_, ?_, ?_, ?_⟩
    · have := g.six
      simp only [T.data, K88.ok]
      exact decide_eq_true (by omega)
    · simp only [T.data, PyData.canLay0]
      exact good_strOk g
    · simp only [T.data, PyData.showable]
    · simp only [T.data, PyData.depth]
      exact Nat.zero_le _
    · have := good_wt g
      simp only [T.data, wt, T.size]
      omega
    · simp only [T.data, nd, T.size]
      exact Nat.le_refl _
  | .node l r, h => by
    refine ((tree_fit l h.l).pair (tree_fit r h.r)).mono (Nat.le_refl _) ?_ ?_
    · simp only [T.size]
      omega
    · simp only [T.size]
      omega

/-- a def of the text, asked only where no repr is under way -/
theorem fun_okG {P : Program} {w : World} {K : PySem.W.Frag} {mg : Str → Option Value} {base : Heap} {x qual : Str} {st : Stmt} {f : Addr} {fd : FuncData} {N ps : List Str} {k : Nat} {sp : Sp} (F : Fun K x qual st f fd)
    (S : FnScope N ps (defScope st)) (len : ∀ vs H Q E, sp vs H Q E → vs.length = ps.length)
    (hbody : ∀ (cdv : Value) (A : Around) (outer : List Env) (s : Shared) (H : Hp) (vs : List V) (Q : VK) (E : XK), A.guards = some [] →
      Room k (A.deeper (envOfC qual (defScope st) s.heap.objs.size f cdv)) → sp vs H Q E →
      ∃ t, PSs (cxOf CX0 P w K mg base N qual (defScope st) f cdv A outer s H E).nox (defBody st) t ∧ t { nx := fun _ H' => Q .non H', rt := Q } (start N vs) H) : GOk P w K mg base CX0 (k + 1) f fd ps sp := by
  obtain ⟨oc, od, kV, doc, pm, an, cdv, ct, osl, rfl, lk, hcd⟩ := F.ex
  refine gok_of lk hcd S len fun A outer s H vs Q E hg hr hsp => ?_
  obtain ⟨t, h, q⟩ := hbody cdv A outer s H vs Q E hg hr hsp
  exact ⟨t, h.nox, q⟩
theorem Same.thenBut {H H1 H2 : Hp} {b : Addr} (hb : H b = none) (k1 : Same H H1) (k2 : But b H1 H2) : Same H H2 := fun c o e => k2 c o (k1 c o e) (ne_of_none e hb)

theorem Fit.shaped {n w k : Nat} {d : PyData} (h : Fit n w k d) (hn : n ≤ 64) : SeqAt.shaped d = true := by
  unfold SeqAt.shaped
  rw [h.lay, decide_eq_true (Nat.le_trans h.dep hn)]
  rfl
theorem Fit.short {n w k : Nat} {d : PyData} (h : Fit n w k d) (hw : w ≤ 1000000) : d.shown.length ≤ sizeLine := by
  have h1 := shown_le d (PyData.hasDict_of_canLay d h.lay)
  have h2 := h.wid
  rw [sizeLine_eq]
  omega
theorem Fit.eqv {n w k : Nat} {d : PyData} (h : Fit n w k d) : PyData.eqv d d = true := SeqAt.eqv_refl d h.lay

theorem allGood_of {ns row : List Str} {t : T} (g : ∀ x ∈ ns, Good x) (m : ∀ x ∈ row, x ∈ ns) (e : t.row = row) : AllGood t := fun x hx => g x (m x (e ▸ hx))

theorem Bag.same {H H' : Hp} {b : Addr} (h : Bag H b) (k : Same H H') : Bag H' b := by
  obtain ⟨x, y, z, e, r⟩ := h
  exact ⟨x, y, z, k _ _ e, r⟩
theorem Same.but {H H' : Hp} (b : Addr) (k : Same H H') : But b H H' := fun c o e _ => k c o e

end K88
namespace K88
open PySem PySem.Spec PyProof.Rows L2 Vr
/-! ### turns -/
def rotL : T → T → List T
  | .node a b, r => [.node a (.node b r)]
  | .leaf _, _ => []
def rotR : T → T → List T
  | l, .node a b => [.node (.node l a) b]
  | _, .leaf _ => []
def T.turns : T → List T
  | .leaf _ => []
  | .node l r => (l.turns.map fun x => .node x r) ++ (r.turns.map fun x => .node l x) ++ (rotL l r ++ rotR l r)
theorem mem_rotL {l r x : T} : x ∈ rotL l r ↔ ∃ a b, l = .node a b ∧ x = .node a (.node b r) := by
  cases l with
  | leaf y => simp [rotL]
  | node a b =>
    simp only [rotL, List.mem_singleton]
    constructor
    · rintro rfl
      exact ⟨a, b, rfl, rfl⟩
    · rintro ⟨a', b', e, rfl⟩
      cases e
      rfl
theorem mem_rotR {l r x : T} : x ∈ rotR l r ↔ ∃ a b, r = .node a b ∧ x = .node (.node l a) b := by
  cases r with
  | leaf y => simp [rotR]
  | node a b =>
    simp only [rotR, List.mem_singleton]
    constructor
    · rintro rfl
      exact ⟨a, b, rfl, rfl⟩
    · rintro ⟨a', b', e, rfl⟩
      cases e
      rfl
theorem mem_turns {l r x : T} : x ∈ (T.node l r).turns ↔
    (∃ y ∈ l.turns, x = .node y r) ∨ (∃ y ∈ r.turns, x = .node l y) ∨ (∃ a b, l = .node a b ∧ x = .node a (.node b r)) ∨ (∃ a b, r = .node a b ∧ x = .node (.node l a) b) := by
  simp only [T.turns, List.mem_append, mem_rotL, mem_rotR, List.mem_map]
  constructor
  · rintro ((⟨y, h, rfl⟩ | ⟨y, h, rfl⟩) | h | h)
    · exact .inl ⟨y, h, rfl⟩
    · exact .inr (.inl ⟨y, h, rfl⟩)
    · exact .inr (.inr (.inl h))
    · exact .inr (.inr (.inr h))
  · rintro (⟨y, h, rfl⟩ | ⟨y, h, rfl⟩ | h | h)
    · exact .inl (.inl ⟨y, h, rfl⟩)
    · exact .inl (.inr ⟨y, h, rfl⟩)
    · exact .inr (.inl h)
    · exact .inr (.inr h)
theorem turns_row : ∀ {t x : T}, x ∈ t.turns → x.row = t.row
  | .leaf _, x, h => by simp [T.turns] at h
  | .node l r, x, h => by
    rcases mem_turns.mp h with ⟨y, g, rfl⟩ | ⟨y, g, rfl⟩ | ⟨a, b, rfl, rfl⟩ | ⟨a, b, rfl, rfl⟩
    · simp only [T.row, turns_row g]
    · simp only [T.row, turns_row g]
    · simp only [T.row, List.append_assoc]
    · simp only [T.row, List.append_assoc]
theorem turns_size : ∀ {t x : T}, x ∈ t.turns → x.size = t.size
  | .leaf _, x, h => by simp [T.turns] at h
  | .node l r, x, h => by
    rcases mem_turns.mp h with ⟨y, g, rfl⟩ | ⟨y, g, rfl⟩ | ⟨a, b, rfl, rfl⟩ | ⟨a, b, rfl, rfl⟩
    · simp only [T.size, turns_size g]
    · simp only [T.size, turns_size g]
    · simp only [T.size]
      omega
    · simp only [T.size]
      omega
theorem grow_ne (a b : T) : a ≠ .node a b := fun e => by
  have := congrArg T.size e
  simp only [T.size] at this
  omega
theorem grow_ne' (a b : T) : b ≠ .node a b := fun e => by
  have := congrArg T.size e
  simp only [T.size] at this
  omega
theorem not_turn : ∀ t : T, t ∉ t.turns
  | .leaf _ => by simp [T.turns]
  | .node l r => fun h => by
    rcases mem_turns.mp h with ⟨y, h, e⟩ | ⟨y, h, e⟩ | ⟨a, b, e1, e2⟩ | ⟨a, b, e1, e2⟩
    · injection e with e1 e2
      rw [← e1] at h
      exact not_turn l h
    · injection e with e1 e2
      rw [← e2] at h
      exact not_turn r h
    · injection e2 with e2 e3
      exact grow_ne a b (e2 ▸ e1)
    · injection e2 with e2 e3
      exact grow_ne' a b (e3 ▸ e1)
theorem turns_sym : ∀ {t x : T}, x ∈ t.turns → t ∈ x.turns
  | .leaf _, x, h => by simp [T.turns] at h
  | .node l r, x, h => by
    rcases mem_turns.mp h with ⟨y, g, rfl⟩ | ⟨y, g, rfl⟩ | ⟨a, b, rfl, rfl⟩ | ⟨a, b, rfl, rfl⟩
    · exact mem_turns.mpr (.inl ⟨l, turns_sym g, rfl⟩)
    · exact mem_turns.mpr (.inr (.inl ⟨r, turns_sym g, rfl⟩))
    · exact mem_turns.mpr (.inr (.inr (.inr ⟨b, r, rfl, rfl⟩)))
    · exact mem_turns.mpr (.inr (.inr (.inl ⟨l, a, rfl, rfl⟩)))
theorem turns_comm {t x : T} : x ∈ t.turns ↔ t ∈ x.turns := ⟨turns_sym, turns_sym⟩
/-- where a turn stands, seen at the root -/
theorem turn_same_l {a b d : T} : .node a d ∈ (T.node a b).turns ↔ d ∈ b.turns := by
  constructor
  · intro h
    rcases mem_turns.mp h with ⟨y, h, e⟩ | ⟨y, h, e⟩ | ⟨p, q, e1, e2⟩ | ⟨p, q, e1, e2⟩
    · injection e with e1 e2
      rw [← e1] at h
      exact absurd h (not_turn a)
    · injection e with e1 e2
      rw [e2]
      exact h
    · injection e2 with e2 e3
      exact absurd (e2 ▸ e1) (grow_ne p q)
    · injection e2 with e2 e3
      exact absurd e2 (grow_ne a p)
  · exact fun h => mem_turns.mpr (.inr (.inl ⟨d, h, rfl⟩))
theorem turn_same_r {a b c : T} : .node c b ∈ (T.node a b).turns ↔ c ∈ a.turns := by
  constructor
  · intro h
    rcases mem_turns.mp h with ⟨y, h, e⟩ | ⟨y, h, e⟩ | ⟨p, q, e1, e2⟩ | ⟨p, q, e1, e2⟩
    · injection e with e1 e2
      rw [e1]
      exact h
    · injection e with e1 e2
      rw [← e2] at h
      exact absurd h (not_turn b)
    · injection e2 with e2 e3
      exact absurd e3 (grow_ne' q b)
    · injection e2 with e2 e3
      exact absurd (e3 ▸ e1) (grow_ne' p q)
  · exact fun h => mem_turns.mpr (.inl ⟨c, h, rfl⟩)
theorem turn_else {a b c d : T} (h1 : a ≠ c) (h2 : b ≠ d) : .node c d ∈ (T.node a b).turns ↔
    (∃ p q, a = .node p q ∧ c = p ∧ d = .node q b) ∨ (∃ p q, b = .node p q ∧ c = .node a p ∧ d = q) := by
  constructor
  · intro h
    rcases mem_turns.mp h with ⟨y, h, e⟩ | ⟨y, h, e⟩ | ⟨p, q, e1, e2⟩ | ⟨p, q, e1, e2⟩
    · injection e with e1 e2
      exact absurd e2.symm h2
    · injection e with e1 e2
      exact absurd e1.symm h1
    · injection e2 with e2 e3
      exact .inl ⟨p, q, e1, e2, e3⟩
    · injection e2 with e2 e3
      exact .inr ⟨p, q, e1, e2, e3⟩
  · rintro (⟨p, q, rfl, rfl, rfl⟩ | ⟨p, q, rfl, rfl, rfl⟩)
    · exact mem_turns.mpr (.inr (.inr (.inl ⟨_, _, rfl, rfl⟩)))
    · exact mem_turns.mpr (.inr (.inr (.inr ⟨_, _, rfl, rfl⟩)))
theorem nodup_map {α β : Type} {f : α → β} (hf : ∀ a b, f a = f b → a = b) : ∀ {l : List α}, l.Nodup → (l.map f).Nodup
  | [], _ => List.nodup_nil
  | x :: l, h => by
    obtain ⟨h1, h2⟩ := List.nodup_cons.mp h
    rw [List.map_cons, List.nodup_cons]
    refine ⟨fun m => ?_, nodup_map hf h2⟩
    obtain ⟨y, hy, e⟩ := List.mem_map.mp m
    exact h1 (hf _ _ e ▸ hy)
theorem turns_nodup : ∀ t : T, t.turns.Nodup
  | .leaf _ => List.nodup_nil
  | .node l r => by
    have nL : (rotL l r).Nodup := by
      cases l <;> simp [rotL]
    have nR : (rotR l r).Nodup := by
      cases r <;> simp [rotR]
    simp only [T.turns]
    refine List.nodup_append.mpr ⟨List.nodup_append.mpr ⟨nodup_map (fun a b e => by injection e) (turns_nodup l), nodup_map (fun a b e => by injection e) (turns_nodup r), ?_⟩, List.nodup_append.mpr ⟨nL, nR, ?_⟩, ?_⟩
    · rintro x hx y hy rfl
      obtain ⟨u, hu, rfl⟩ := List.mem_map.mp hx
      obtain ⟨v, hv, e⟩ := List.mem_map.mp hy
      injection e with e1 e2
      exact not_turn l (e1 ▸ hu)
    · rintro x hx y hy rfl
      obtain ⟨a, b, rfl, rfl⟩ := mem_rotL.mp hx
      obtain ⟨c, d, rfl, e⟩ := mem_rotR.mp hy
      injection e with e1 e2
      have := congrArg T.size e1
      simp only [T.size] at this
      omega
    · rintro x hx y hy rfl
      have sz : ∀ z w : T, x = .node z w → (z.size = l.size ∧ w.size = r.size) := by
        intro z w e
        rcases List.mem_append.mp hx with h | h
        · obtain ⟨u, hu, rfl⟩ := List.mem_map.mp h
          injection e with e1 e2
          rw [← e1, ← e2]
          exact ⟨turns_size hu, rfl⟩
        · obtain ⟨u, hu, rfl⟩ := List.mem_map.mp h
          injection e with e1 e2
          rw [← e1, ← e2]
          exact ⟨rfl, turns_size hu⟩
      rcases List.mem_append.mp hy with h | h
      · obtain ⟨a, b, rfl, rfl⟩ := mem_rotL.mp h
        have := (sz _ _ rfl).1
        simp only [T.size] at this
        omega
      · obtain ⟨a, b, rfl, rfl⟩ := mem_rotR.mp h
        have := (sz _ _ rfl).1
        simp only [T.size] at this
        omega
/-! ### the way to a part -/
inductive Stp where
  | l (right : T)
  | r (left : T)
def fill : T → List Stp → T
  | t, [] => t
  | t, .l x :: w => fill (.node t x) w
  | t, .r x :: w => fill (.node x t) w
/-- what a waiting part still gives -/
def due (p : T × List Stp) : List T := p.1.turns.map fun x => fill x p.2
def dues (ws : List (T × List Stp)) : List T := ws.flatMap due
theorem due_leaf (x : Str) (w : List Stp) : due (.leaf x, w) = [] := rfl
theorem due_node (l r : T) (w : List Stp) : (due (.node l r, w)).Perm ((rotL l r ++ rotR l r).map (fun x => fill x w) ++ (due (l, .l r :: w) ++ due (r, .r l :: w))) := by
  have e : due (.node l r, w) = (due (l, .l r :: w) ++ due (r, .r l :: w)) ++ (rotL l r ++ rotR l r).map (fun x => fill x w) := by
    simp only [due, T.turns, List.map_append, List.map_map]
    rfl
  rw [e]
  exact List.perm_append_comm
theorem dues_step {ws : List (T × List Stp)} {l r : T} {w : List Stp} {fs : List T} {t : T} (h : (fs ++ dues (ws ++ [(.node l r, w)])).Perm t.turns) :
    (fs ++ (rotL l r ++ rotR l r).map (fun x => fill x w) ++ dues (ws ++ [(l, .l r :: w), (r, .r l :: w)])).Perm t.turns := by
  refine List.Perm.trans ?_ h
  simp only [dues, List.flatMap_append, List.flatMap_cons, List.flatMap_nil, List.append_nil, List.append_assoc]
  refine List.Perm.append_left fs ?_
  have p1 := (due_node l r w).symm.append_left (ws.flatMap due)
  refine List.Perm.trans ?_ p1
  simp only [List.map_append, List.append_assoc]
  have p2 : ∀ A B C D : List T, (A ++ (B ++ (C ++ D))).Perm (C ++ (A ++ (B ++ D))) := fun A B C D => by
    have q : (A ++ B ++ C).Perm (C ++ (A ++ B)) := List.perm_append_comm
    have := q.append_right D
    simpa only [List.append_assoc] using this
  exact p2 _ _ _ _
def wayN : List (T × List Stp) → Nat
  | [] => 0
  | p :: ws => p.1.size + wayN ws
theorem wayN_app : ∀ a b : List (T × List Stp), wayN (a ++ b) = wayN a + wayN b
  | [], b => by simp [wayN]
  | p :: a, b => by
    simp only [List.cons_append, wayN, wayN_app a b]
    omega
theorem turns_len : ∀ t : T, t.turns.length + 1 ≤ t.size
  | .leaf _ => Nat.le_refl _
  | .node l r => by
    have h1 := turns_len l
    have h2 := turns_len r
    have r1 : (rotL l r).length ≤ 1 := by cases l <;> simp [rotL]
    have r2 : (rotR l r).length ≤ 1 := by cases r <;> simp [rotR]
    simp only [T.turns, T.size, List.length_append, List.length_map]
    omega
/-! ### numbers for parts -/
abbrev Ky := Sum Str (Int × Int)
inductive Den (ks : List Ky) : Nat → T → Prop
  | leaf {i : Nat} {x : Str} : ks[i]? = some (.inl x) → Den ks i (.leaf x)
  | node {i a b : Nat} {l r : T} : ks[i]? = some (.inr ((a : Int), (b : Int))) → Den ks a l → Den ks b r → Den ks i (.node l r)
theorem Den.mono {ks : List Ky} {ys : List Ky} {i : Nat} {t : T} (h : Den ks i t) : Den (ks ++ ys) i t := by
  have g : ∀ {i : Nat} {k : Ky}, ks[i]? = some k → (ks ++ ys)[i]? = some k := fun {i k} e => by
    rw [List.getElem?_append_left (List.getElem?_eq_some_iff.mp e).1, e]
  induction h with
  | leaf e => exact .leaf (g e)
  | node e _ _ h1 h2 => exact .node (g e) h1 h2
theorem Den.fun {ks : List Ky} {i : Nat} {t : T} (h : Den ks i t) : ∀ {u : T}, Den ks i u → t = u := by
  induction h with
  | leaf e =>
    intro u h
    cases h with
    | leaf e2 =>
      rw [e] at e2
      cases e2
      rfl
    | node e2 _ _ =>
      rw [e] at e2
      cases e2
  | node e _ _ h1 h2 =>
    intro u h
    cases h with
    | leaf e2 =>
      rw [e] at e2
      cases e2
    | node e2 g1 g2 =>
      rw [e] at e2
      injection e2 with e2
      injection e2 with e2
      injection e2 with e3 e4
      have e3 := Int.ofNat.inj e3
      have e4 := Int.ofNat.inj e4
      subst e3 e4
      rw [h1 g1, h2 g2]
theorem nodup_at {α : Type} {l : List α} (h : l.Nodup) {i j : Nat} {x : α} (h1 : l[i]? = some x) (h2 : l[j]? = some x) : i = j :=
  (List.getElem?_inj (List.getElem?_eq_some_iff.mp h1).1 h).mp (h1.trans h2.symm)
theorem Den.inj {ks : List Ky} (nd : ks.Nodup) {i : Nat} {t : T} (h : Den ks i t) : ∀ {j : Nat}, Den ks j t → i = j := by
  induction h with
  | leaf e =>
    intro j h
    cases h with
    | leaf e2 => exact nodup_at nd e e2
  | node e _ _ h1 h2 =>
    intro j h
    cases h with
    | node e2 g1 g2 =>
      have a := h1 g1
      have b := h2 g2
      subst a b
      exact nodup_at nd e e2
theorem Den.lt {ks : List Ky} {i : Nat} {t : T} (h : Den ks i t) : i < ks.length := by
  cases h with
  | leaf e => exact (List.getElem?_eq_some_iff.mp e).1
  | node e _ _ => exact (List.getElem?_eq_some_iff.mp e).1
/-- the stack machine that numbers -/
def nrun : List (T × Bool) → List T → Option (List T)
  | [], st => some st
  | (p, false) :: ws, st => nrun ws (p :: st)
  | (_, true) :: ws, r :: l :: st => nrun ws (.node l r :: st)
  | (_, true) :: _, _ => none
def nn : List (T × Bool) → Nat
  | [] => 0
  | (p, false) :: ws => 2 * p.size + nn ws
  | (_, true) :: ws => 1 + nn ws
theorem nn_len : ∀ ws : List (T × Bool), ws.length ≤ nn ws
  | [] => Nat.le_refl _
  | (p, false) :: ws => by
    have := p.size_pos
    have := nn_len ws
    simp only [List.length_cons, nn]
    omega
  | (_, true) :: ws => by
    have := nn_len ws
    simp only [List.length_cons, nn]
    omega
end K88
namespace K88
open PySem PySem.Spec PyProof.Rows L2 Vr
abbrev sTurned : Stmt := top 2
abbrev sHere : Stmt := top 3
abbrev sPut : Stmt := top 4
def WayAt (H : Hp) : V → List Stp → Prop
  | v, [] => v = .non
  | v, .l x :: w => ∃ (p : Addr) (a c : V), v = .ref p ∧ H p = some (.tup [a, .non, c]) ∧ WayAt H a w ∧ TreeAt H c x
  | v, .r x :: w => ∃ (p : Addr) (a c : V), v = .ref p ∧ H p = some (.tup [a, c, .non]) ∧ WayAt H a w ∧ TreeAt H c x
theorem WayAt.same {H H' : Hp} (k : Same H H') : ∀ {w : List Stp} {v : V}, WayAt H v w → WayAt H' v w
  | [], _, h => h
  | .l _ :: _, _, ⟨p, a, c, e, h, h1, h2⟩ => ⟨p, a, c, e, k _ _ h, WayAt.same k h1, h2.same k⟩
  | .r _ :: _, _, ⟨p, a, c, e, h, h1, h2⟩ => ⟨p, a, c, e, k _ _ h, WayAt.same k h1, h2.same k⟩
theorem TreeAt.ne {H : Hp} {t : T} {v : V} (h : TreeAt H v t) : v ≠ .non := by
  cases t with
  | leaf x =>
    rw [show v = .str x from h]
    intro e
    cases e
  | node l r =>
    obtain ⟨p, a, c, e, _⟩ := h
    rw [e]
    intro e
    cases e
theorem TreeAll.same {H H' : Hp} (k : Same H H') : ∀ {vs : List V} {ts : List T}, TreeAll H vs ts → TreeAll H' vs ts
  | [], [], _ => trivial
  | _ :: _, _ :: _, h => ⟨h.1.same k, TreeAll.same k h.2⟩
def spPut : Sp := fun vs H Q _ => ∃ (v u : V) (t : T) (w : List Stp), vs = [v, u] ∧ TreeAt H v t ∧ WayAt H u w ∧ ∀ (r : V) (H' : Hp), TreeAt H' r (fill t w) → Same H H' → Q r H'
def spHere : Sp := fun vs H Q _ => ∃ (v u : V) (l r : T), vs = [v, u] ∧ TreeAt H v l ∧ TreeAt H u r ∧ ∀ (p : Addr) (us : List V) (H' : Hp), H p = none → H' p = some (.lst us) → TreeAll H' us (rotL l r ++ rotR l r) → Same H H' → Q (.ref p) H'
def spTurned : Sp := fun vs H Q _ => ∃ (v : V) (t : T), vs = [v] ∧ TreeAt H v t ∧ t.size ≤ 100000 ∧ ∀ (p : Addr) (us : List V) (fs : List T) (H' : Hp), H p = none → H' p = some (.lst us) → TreeAll H' us fs → fs.Perm t.turns → Same H H' → Q (.ref p) H'
theorem made {H1 : Hp} {fl q q2 : Addr} {xs ys A B : List V} (hf : H1 fl = some (.lst xs)) (hq : H1 q = none) (hq2 : upd H1 q (.tup A) q2 = none) :
    upd (upd H1 q (.tup A)) q2 (.tup B) fl = some (.lst xs) ∧
    upd (upd (upd H1 q (.tup A)) q2 (.tup B)) fl (.lst ys) q = some (.tup A) ∧ upd (upd (upd H1 q (.tup A)) q2 (.tup B)) fl (.lst ys) q2 = some (.tup B) ∧
    (∀ c o, H1 c = some o → c ≠ fl → upd (upd (upd H1 q (.tup A)) q2 (.tup B)) fl (.lst ys) c = some o) := by
  have n1 : q ≠ fl := (ne_of_none hf hq).symm
  have n2 : q2 ≠ q := fun z => by
    rw [z, upd_same] at hq2
    cases hq2
  have n3 : q2 ≠ fl := fun z => by
    rw [z, upd_ne n1.symm, hf] at hq2
    cases hq2
  refine ⟨?_, ?_, ?_, fun c o e n => ?_⟩
  · rw [upd_ne n3.symm, upd_ne n1.symm]
    exact hf
  · rw [upd_ne n1, upd_ne n2.symm, upd_same]
  · rw [upd_ne n3, upd_same]
  · have m1 : c ≠ q := ne_of_none e hq
    have m2 : c ≠ q2 := fun z => by
      rw [← z, upd_ne m1, e] at hq2
      cases hq2
    rw [upd_ne n, upd_ne m2, upd_ne m1]
    exact e
theorem TreeAt.save {H H' : Hp} {fl : Addr} {xs : List V} {t : T} {v : V} (h : TreeAt H v t) (hf : H fl = some (.lst xs)) (k : ∀ c o, H c = some o → c ≠ fl → H' c = some o) : TreeAt H' v t :=
  h.keep fun p ys e => k p _ e (ne_of e hf (by intro z; cases z))
theorem TreeAll.save {H H' : Hp} {fl : Addr} {xs : List V} (hf : H fl = some (.lst xs)) (k : ∀ c o, H c = some o → c ≠ fl → H' c = some o) : ∀ {vs : List V} {ts : List T}, TreeAll H vs ts → TreeAll H' vs ts
  | [], [], _ => trivial
  | _ :: _, _ :: _, h => ⟨h.1.save hf k, TreeAll.save hf k h.2⟩
theorem sameSave {H H1 H' : Hp} {fl : Addr} (hn : H fl = none) (s : Same H H1) (k : ∀ c o, H1 c = some o → c ≠ fl → H' c = some o) : Same H H' := fun c o e => k c o (s c o e) (ne_of_none e hn)
section
variable {P : Program} {w : World} {K : PySem.W.Frag} {mg : Str → Option Value} {base : Heap}
theorem scPut : FnScope ["part", "way", "left", "right"] ["part", "way"] (defScope sPut) := ⟨rfl, rfl, rfl, by decide +kernel, rfl, by decide +kernel, by decide +kernel⟩
theorem ok_put {f : Addr} {fd : FuncData} (F : Fun K "_put_back" "_put_back" sPut f fd) : FnOk P w K mg base CX0 1 f fd ["part", "way"] spPut := by
  refine F.ok scPut (fun vs H Q E h => ?_) (fun cdv A outer s H vs Q E hr h => ?_)
  · obtain ⟨v, u, t, w', rfl, _⟩ := h
    rfl
  · obtain ⟨v, u, t, w', rfl, ht, hw, k⟩ := h
    refine ⟨_, pss_cons (ps_while PassesOwn.never (pt_cmpR op_notN (pv 1) pe_non (nomark _))
        (pss_cons (ps_asg (pv 1) (pg_tup rfl (pgs_cons (pg_name (i := 1) scPut.nd rfl (Or.inl rfl)) (pgs_cons (pg_name (i := 2) scPut.nd rfl (Or.inl rfl)) (pgs_cons (pg_name (i := 3) scPut.nd rfl (Or.inl rfl)) pgs_nil)))))
        (pss_one (ps_set (i := 0) scPut.nd rfl (Or.inl rfl) (pe_ifExp (pt_cmpR op_isN (pv 2) pe_non (nomark _)) (pe_tup (pa_cons (pv 0) (pa_cons (pv 3) pa_nil))) (pe_tup (pa_cons (pv 2) (pa_cons (pv 0) pa_nil))))))))
      (pss_one (ps_ret (pv 0))), ?_⟩
    refine ⟨fun m σ H1 => ∃ (v1 u1 : V) (t1 : T) (w1 : List Stp) (o2 o3 : Option V), σ = [some v1, some u1, o2, o3] ∧ TreeAt H1 v1 t1 ∧ WayAt H1 u1 w1 ∧ w1.length = m ∧ fill t1 w1 = fill t w' ∧ Same H H1,
      ⟨w'.length, v, u, t, w', none, none, rfl, ht, hw, rfl, rfl, Same.refl H⟩, ?_⟩
    rintro m σ H1 ⟨v1, u1, t1, w1, o2, o3, rfl, a1, a2, a3, a4, a5⟩
    refine ⟨_, rfl, rfl, _, rfl, ?_⟩
    cases w1 with
    | nil =>
      cases (show u1 = V.non from a2)
      show if (!decide (V.non = V.non)) = true then _ else _
      refine iteF ?_
      refine ⟨_, rfl, ?_⟩
      exact k _ _ (by rw [← a4]; exact a1) a5
    | cons s w1 =>
      cases s with
      | l x =>
        obtain ⟨p, a, c, rfl, hp, h1, h2⟩ := a2
        show if (!decide (V.ref p = V.non)) = true then _ else _
        rw [decide_eq_false (fun z => by cases z)]
        refine iteT ?_
        refine ⟨_, fun _ _ z => z, ?_⟩
        refine ⟨_, rfl, p, _, rfl, SqT.of hp, rfl, _, _, rfl, _, _, rfl, _, _, rfl, rfl, ?_⟩
        refine ⟨_, rfl, rfl, _, rfl, ?_⟩
        show if (decide (V.non = V.non)) = true then _ else _
        refine iteT ?_
        refine ⟨_, rfl, _, rfl, (by show 2 ≤ sizeLine; decide), fun q hq => ?_⟩
        subst a3
        exact ⟨w1.length, by simp, .ref q, a, .node t1 x, w1, _, _, rfl, ⟨q, v1, c, rfl, upd_same, a1.new hq, h2.new hq⟩, h1.same (Same.new hq), rfl, a4, a5.trans (Same.new hq)⟩
      | r x =>
        obtain ⟨p, a, c, rfl, hp, h1, h2⟩ := a2
        show if (!decide (V.ref p = V.non)) = true then _ else _
        rw [decide_eq_false (fun z => by cases z)]
        refine iteT ?_
        refine ⟨_, fun _ _ z => z, ?_⟩
        refine ⟨_, rfl, p, _, rfl, SqT.of hp, rfl, _, _, rfl, _, _, rfl, _, _, rfl, rfl, ?_⟩
        refine ⟨_, rfl, rfl, _, rfl, ?_⟩
        show if (decide (c = V.non)) = true then _ else _
        rw [decide_eq_false h2.ne]
        refine iteF ?_
        refine ⟨_, rfl, _, rfl, (by show 2 ≤ sizeLine; decide), fun q hq => ?_⟩
        subst a3
        exact ⟨w1.length, by simp, .ref q, a, .node x t1, w1, _, _, rfl, ⟨q, c, v1, rfl, upd_same, h2.new hq, a1.new hq⟩, h1.same (Same.new hq), rfl, a4, a5.trans (Same.new hq)⟩
theorem scHere : FnScope ["left", "right", "found"] ["left", "right"] (defScope sHere) := ⟨rfl, rfl, rfl, by decide +kernel, rfl, by decide +kernel, by decide +kernel⟩
theorem ok_here {f : Addr} {fd : FuncData} (F : Fun K "_turned_here" "_turned_here" sHere f fd) (gIsi : mg "isinstance" = none) (gTuple : mg "tuple" = none) : FnOk P w K mg base CX0 1 f fd ["left", "right"] spHere := by
  refine F.ok scHere (fun vs H Q E h => ?_) (fun cdv A outer s H vs Q E hr h => ?_)
  · obtain ⟨v, u, l, r, rfl, _⟩ := h
    rfl
  · obtain ⟨v, u, l, r, rfl, hl, hr', k⟩ := h
    refine ⟨_, pss_cons (ps_set (i := 2) scHere.nd rfl (Or.inl rfl) (pe_lst pa_nil))
      (C8.pss_cut (ps_if (pt_val (pe_callB call_isi (by rfl) gIsi (by decide +kernel) (pa_cons (pv 0) (pa_cons (pe_bltn (v := .ty "tuple") (by rfl) gTuple (by decide +kernel) rfl) pa_nil))))
        (pss_one (ps_expr (pe_bm PySem.F.plainAttrs_list PySem.F.slot_list_append PySem.F.type_list_append mt_append (pv 2) (pa_cons (pe_tup (pa_cons (pe_ix ix_tup (pv 0) pe_int (fun _ _ => rfl)) (pa_cons (pe_tup (pa_cons (pe_ix ix_tup (pv 0) pe_int (fun _ _ => rfl)) (pa_cons (pv 1) pa_nil))) pa_nil))) pa_nil)))) pss_nil)
      (C8.pss_cut (ps_if (pt_val (pe_callB call_isi (by rfl) gIsi (by decide +kernel) (pa_cons (pv 1) (pa_cons (pe_bltn (v := .ty "tuple") (by rfl) gTuple (by decide +kernel) rfl) pa_nil))))
        (pss_one (ps_expr (pe_bm PySem.F.plainAttrs_list PySem.F.slot_list_append PySem.F.type_list_append mt_append (pv 2) (pa_cons (pe_tup (pa_cons (pe_tup (pa_cons (pv 0) (pa_cons (pe_ix ix_tup (pv 1) pe_int (fun _ _ => rfl)) pa_nil))) (pa_cons (pe_ix ix_tup (pv 1) pe_int (fun _ _ => rfl)) pa_nil))) pa_nil)))) pss_nil)
      (pss_one (ps_ret (pv 2))))), ?_⟩
    refine ⟨(by show 0 ≤ sizeLine; decide), fun fl hf => ?_⟩
    have s0 : Same H (upd H fl (.lst [])) := Same.new hf
    have small : ∀ n, n ≤ 2 → n < sizeLine := fun n h => small1000 (by omega)
    -- the left part
    refine ⟨fun σ H1 => σ = [some v, some u, some (.ref fl)] ∧ ∃ us : List V, H1 fl = some (.lst us) ∧ us.length ≤ 1 ∧ TreeAll H1 us (rotL l r) ∧ Same H H1, ?_, ?_⟩
    · cases l with
      | leaf x =>
        cases (show v = V.str x from hl)
        refine ⟨_, rfl, .str x, .ty "tuple", _, _, _, rfl, ClsV.ty "tuple", .base (.str x), kit_tuple (.str x), _, rfl, ?_⟩
        refine iteF ?_
        exact ⟨rfl, [], upd_same, Nat.zero_le _, trivial, s0⟩
      | node la lb =>
        obtain ⟨p, a, c, rfl, hp, h1, h2⟩ := hl
        have hp0 := s0 _ _ hp
        refine ⟨_, rfl, .ref p, .ty "tuple", _, _, _, rfl, ClsV.ty "tuple", .base (.tup hp0), kit_tuple (.tuple []), _, rfl, ?_⟩
        refine iteT ?_
        refine ⟨_, rfl, Or.inl ⟨rfl, _, SqL.of upd_same⟩, _, rfl, p, _, _, _, rfl, rfl, SqT.of hp0, rfl, ?_⟩
        refine ⟨_, rfl, p, _, _, _, rfl, rfl, SqT.of hp0, rfl, _, rfl, (by show 2 ≤ sizeLine; decide), fun q hq => ⟨(by show 2 ≤ sizeLine; decide), fun q2 hq2 => ?_⟩⟩
        obtain ⟨f3, g1, g2, g3⟩ := made (ys := [] ++ [V.ref q2]) (B := [a, V.ref q]) (upd_same (H := H) (a := fl) (o := .lst [])) hq hq2
        refine ⟨fl, _, _, rfl, rfl, f3, small _ (by simp), rfl, _, upd_same, Nat.le_refl _, ⟨⟨q2, a, .ref q, rfl, g2, ?_, q, c, u, rfl, g1, ?_, ?_⟩, trivial⟩, sameSave hf s0 g3⟩
        · exact (h1.same s0).save upd_same g3
        · exact (h2.same s0).save upd_same g3
        · exact (hr'.same s0).save upd_same g3
    rintro σ H1 ⟨rfl, us, hu, ln, au, s1⟩
    have hl := hl.same s1
    have hr' := hr'.same s1
    -- the right part
    refine ⟨fun σ H2 => σ = [some v, some u, some (.ref fl)] ∧ ∃ us : List V, H2 fl = some (.lst us) ∧ TreeAll H2 us (rotL l r ++ rotR l r) ∧ Same H H2, ?_, ?_⟩
    · cases r with
      | leaf x =>
        cases (show u = V.str x from hr')
        refine ⟨_, rfl, .str x, .ty "tuple", _, _, _, rfl, ClsV.ty "tuple", .base (.str x), kit_tuple (.str x), _, rfl, ?_⟩
        refine iteF ?_
        exact ⟨rfl, us, hu, by rw [show rotR l (.leaf x) = [] from rfl, List.append_nil]; exact au, s1⟩
      | node ra rb =>
        obtain ⟨p, a, c, rfl, hp, h1, h2⟩ := hr'
        refine ⟨_, rfl, .ref p, .ty "tuple", _, _, _, rfl, ClsV.ty "tuple", .base (.tup hp), kit_tuple (.tuple []), _, rfl, ?_⟩
        refine iteT ?_
        refine ⟨_, rfl, Or.inl ⟨rfl, _, SqL.of hu⟩, _, rfl, _, rfl, p, _, _, _, rfl, rfl, SqT.of hp, rfl, (by show 2 ≤ sizeLine; decide), fun q hq => ?_⟩
        have hp1 := Same.new (o := .tup [v, a]) hq _ _ hp
        refine ⟨_, rfl, p, _, _, _, rfl, rfl, SqT.of hp1, rfl, (by show 2 ≤ sizeLine; decide), fun q2 hq2 => ?_⟩
        obtain ⟨f3, g1, g2, g3⟩ := made (ys := us ++ [V.ref q2]) (B := [V.ref q, c]) hu hq hq2
        refine ⟨fl, _, _, rfl, rfl, f3, small _ (by omega), rfl, _, upd_same, ?_, sameSave hf s1 g3⟩
        refine TreeAll.append (TreeAll.save hu g3 au) ⟨⟨q2, .ref q, c, rfl, g2, ⟨q, v, a, rfl, g1, hl.save hu g3, h1.save hu g3⟩, h2.save hu g3⟩, trivial⟩
    · rintro σ H2 ⟨rfl, us, hu, au, s1⟩
      exact ⟨_, rfl, k fl us _ hf hu au s1⟩
abbrev nTurned : List Str := ["tree", "found", "waiting", "part", "way", "left", "right", "other"]
theorem scTurned : FnScope nTurned ["tree"] (defScope sTurned) := ⟨rfl, rfl, rfl, by decide +kernel, rfl, by decide +kernel, by decide +kernel⟩
/-- the waiting parts with their ways -/
def WaitAt (H : Hp) : List V → List (T × List Stp) → Prop
  | [], [] => True
  | v :: vs, (t, w) :: ws => (∃ (p : Addr) (a c : V), v = .ref p ∧ H p = some (.tup [a, c]) ∧ TreeAt H a t ∧ WayAt H c w) ∧ WaitAt H vs ws
  | _, _ => False
theorem WaitAt.same {H H' : Hp} (k : Same H H') : ∀ {vs : List V} {ws : List (T × List Stp)}, WaitAt H vs ws → WaitAt H' vs ws
  | [], [], _ => trivial
  | _ :: _, (_, _) :: _, ⟨⟨p, a, c, e, h, h1, h2⟩, r⟩ => ⟨⟨p, a, c, e, k _ _ h, h1.same k, h2.same k⟩, WaitAt.same k r⟩
theorem WayAt.save {H H' : Hp} (k : ∀ p xs, H p = some (.tup xs) → H' p = some (.tup xs)) : ∀ {w : List Stp} {v : V}, WayAt H v w → WayAt H' v w
  | [], _, h => h
  | .l _ :: _, _, ⟨p, a, c, e, h, h1, h2⟩ => ⟨p, a, c, e, k _ _ h, WayAt.save k h1, h2.keep k⟩
  | .r _ :: _, _, ⟨p, a, c, e, h, h1, h2⟩ => ⟨p, a, c, e, k _ _ h, WayAt.save k h1, h2.keep k⟩
theorem WaitAt.save {H H' : Hp} (k : ∀ p xs, H p = some (.tup xs) → H' p = some (.tup xs)) : ∀ {vs : List V} {ws : List (T × List Stp)}, WaitAt H vs ws → WaitAt H' vs ws
  | [], [], _ => trivial
  | _ :: _, (_, _) :: _, ⟨⟨p, a, c, e, h, h1, h2⟩, r⟩ => ⟨⟨p, a, c, e, k _ _ h, h1.keep k, WayAt.save k h2⟩, WaitAt.save k r⟩
theorem TreeAll.save2 {H H' : Hp} (k : ∀ p xs, H p = some (.tup xs) → H' p = some (.tup xs)) : ∀ {vs : List V} {ts : List T}, TreeAll H vs ts → TreeAll H' vs ts
  | [], [], _ => trivial
  | _ :: _, _ :: _, h => ⟨h.1.keep k, TreeAll.save2 k h.2⟩
theorem WaitAt.snoc {H : Hp} : ∀ {vs : List V} {v : V} {ws : List (T × List Stp)}, WaitAt H (vs ++ [v]) ws → ∃ us t w, ws = us ++ [(t, w)] ∧ WaitAt H vs us ∧ ∃ (p : Addr) (a c : V), v = .ref p ∧ H p = some (.tup [a, c]) ∧ TreeAt H a t ∧ WayAt H c w
  | [], _, [(t, w)], h => ⟨[], t, w, rfl, trivial, h.1⟩
  | [], _, (_, _) :: _ :: _, h => h.2.elim
  | _ :: vs, _, (t, w) :: ws, h => by
    obtain ⟨us, t', w', rfl, h1, h2⟩ := WaitAt.snoc (vs := vs) h.2
    exact ⟨(t, w) :: us, t', w', rfl, ⟨h.1, h1⟩, h2⟩
theorem WaitAt.append {H : Hp} : ∀ {vs xs : List V} {ws us : List (T × List Stp)}, WaitAt H vs ws → WaitAt H xs us → WaitAt H (vs ++ xs) (ws ++ us)
  | [], _, [], _, _, q => q
  | _ :: _, _, (_, _) :: _, _, h, q => ⟨h.1, h.2.append q⟩
theorem WaitAt.length {H : Hp} : ∀ {vs : List V} {ws : List (T × List Stp)}, WaitAt H vs ws → vs.length = ws.length
  | [], [], _ => rfl
  | _ :: _, (_, _) :: _, h => by simp [h.2.length]
theorem wayN_len : ∀ ws : List (T × List Stp), ws.length ≤ wayN ws
  | [] => Nat.le_refl _
  | p :: ws => by
    have := p.1.size_pos
    have := wayN_len ws
    simp only [List.length_cons, wayN]
    omega
theorem TreeAll.get {H : Hp} : ∀ {vs : List V} {ts : List T} {i : Nat} {x : V}, TreeAll H vs ts → vs[i]? = some x → ∃ t, ts[i]? = some t ∧ TreeAt H x t
  | [], [], _, _, _, e => by simp at e
  | _ :: _, t :: _, 0, _, h, e => by
    have e : _ = _ := Option.some.inj e
    subst e
    exact ⟨t, rfl, h.1⟩
  | _ :: _, _ :: _, i + 1, _, h, e => TreeAll.get (i := i) h.2 e
theorem keepT {H : Hp} {fl : Addr} {xs : List V} {o : HO} (hf : H fl = some (.lst xs)) : ∀ p zs, H p = some (.tup zs) → upd H fl o p = some (.tup zs) := fun p zs e => by
  rw [upd_ne (ne_of e hf (by intro z; cases z))]
  exact e
theorem sameT {H H' : Hp} (k : Same H H') : ∀ p zs, H p = some (.tup zs) → H' p = some (.tup zs) := fun p zs e => k p _ e
theorem ok_turned {f fH fP : Addr} {fd fdH fdP : FuncData} (F : Fun K "turned" "turned" sTurned f fd) (GH : FnOk P w K mg base CX0 1 fH fdH ["left", "right"] spHere) (bH : Binds K fdH ["left", "right"] []) (mH : mg "_turned_here" = some (.ref fH))
    (kH : PySem.W.keepIn K (.ref fH) = true) (GP : FnOk P w K mg base CX0 1 fP fdP ["part", "way"] spPut) (bP : Binds K fdP ["part", "way"] []) (mP : mg "_put_back" = some (.ref fP)) (kP : PySem.W.keepIn K (.ref fP) = true)
    (gIsi : mg "isinstance" = none) (gStr : mg "str" = none) : FnOk P w K mg base CX0 2 f fd ["tree"] spTurned := by
  refine F.ok scTurned (fun vs H Q E h => ?_) (fun cdv A outer s H vs Q E hr h => ?_)
  · obtain ⟨v, t, rfl, _⟩ := h
    rfl
  · obtain ⟨v, t, rfl, ht, hz, k⟩ := h
    refine ⟨_, pss_cons (ps_set (i := 1) scTurned.nd rfl (Or.inl rfl) (pe_lst pa_nil))
      (pss_cons (ps_set (i := 2) scTurned.nd rfl (Or.inl rfl) (pe_lst (pa_cons (pe_tup (pa_cons (pv 0) (pa_cons pe_non pa_nil))) pa_nil)))
      (pss_cons (ps_while PassesOwn.never (pt_truth (pv 2) (by intro _; rfl))
        (pss_cons (ps_asg (pe_bm0 PySem.F.plainAttrs_list PySem.F.slot_list_pop PySem.F.type_list_pop mt_pop (pv 2)) (pg_tup rfl (pgs_cons (pg_name (i := 3) scTurned.nd rfl (Or.inl rfl)) (pgs_cons (pg_name (i := 4) scTurned.nd rfl (Or.inr rfl)) pgs_nil))))
        (pss_cons (ps_if (pt_val (pe_callB call_isi (by rfl) gIsi (by decide +kernel) (pa_cons (pv 3) (pa_cons (pe_bltn (v := .ty "str") (by rfl) gStr (by decide +kernel) rfl) pa_nil))))
          (pss_one ps_continue) pss_nil)
        (pss_cons (ps_asg (pv 3) (pg_tup rfl (pgs_cons (pg_name (i := 5) scTurned.nd rfl (Or.inl rfl)) (pgs_cons (pg_name (i := 6) scTurned.nd rfl (Or.inl rfl)) pgs_nil))))
        (pss_cons (ps_expr (pe_bm PySem.F.plainAttrs_list PySem.F.slot_list_extend PySem.F.type_list_extend mt_extend (pv 1) (pa_cons
            (pe_lc (own := [("other", 7)]) (g := gName 7) (tt := tYes) rfl scTurned.nd (pi_list (pe_call GH hr (by rfl) mH kH bH .nil pass0 (pa_cons (pv 5) (pa_cons (pv 6) pa_nil))))
              (blkOk_by (N := nTurned) (sc := defScope sTurned) (by decide +kernel)) (fun _ _ _ _ _ => pg_name (i := 7) scTurned.nd rfl (Or.inl rfl)) (fun _ _ _ _ _ => pts_nil)
              (fun _ _ _ _ _ => pe_call GP hr (by rfl) mP kP bP .nil pass0 (pa_cons (pv 7) (pa_cons (pv 4) pa_nil)))) pa_nil)))
        (pss_cons (ps_expr (pe_bm PySem.F.plainAttrs_list PySem.F.slot_list_append PySem.F.type_list_append mt_append (pv 2) (pa_cons (pe_tup (pa_cons (pv 5) (pa_cons (pe_tup (pa_cons (pv 4) (pa_cons pe_non (pa_cons (pv 6) pa_nil)))) pa_nil))) pa_nil)))
        (pss_one (ps_expr (pe_bm PySem.F.plainAttrs_list PySem.F.slot_list_append PySem.F.type_list_append mt_append (pv 2) (pa_cons (pe_tup (pa_cons (pv 6) (pa_cons (pe_tup (pa_cons (pv 4) (pa_cons (pv 5) (pa_cons pe_non pa_nil)))) pa_nil))) pa_nil))))))))))
      (pss_one (ps_ret (pv 1))))), ?_⟩
    refine ⟨(by show 0 ≤ sizeLine; decide), fun fl hf => ?_⟩
    refine ⟨_, rfl, (by show 2 ≤ sizeLine; decide), fun q0 hq0 => ⟨(by show 1 ≤ sizeLine; decide), fun wl hw => ?_⟩⟩
    have s0 : Same H (upd H fl (.lst [])) := Same.new hf
    have s1 : Same H (upd (upd H fl (.lst [])) q0 (.tup [v, .non])) := s0.trans (Same.new hq0)
    have hwH : H wl = none := s1.free hw
    have f1 : upd (upd H fl (.lst [])) q0 (.tup [v, .non]) fl = some (.lst []) := Same.new hq0 _ _ upd_same
    have nfw : fl ≠ wl := ne_of_none f1 hw
    refine ⟨fun m σ H1 => ∃ (us vs : List V) (fs : List T) (ws : List (T × List Stp)) (o3 o4 o5 o6 o7 : Option V), σ = [some v, some (.ref fl), some (.ref wl), o3, o4, o5, o6, o7] ∧ H1 fl = some (.lst us) ∧ H1 wl = some (.lst vs) ∧
        TreeAll H1 us fs ∧ WaitAt H1 vs ws ∧ wayN ws = m ∧ m ≤ t.size ∧ (fs ++ dues ws).Perm t.turns ∧ Same H H1,
      ⟨t.size, [], [.ref q0], [], [(t, [])], none, none, none, none, none, rfl, ?_, upd_same, trivial, ⟨⟨q0, v, .non, rfl, ?_, ((ht.same s1).new hw), rfl⟩, trivial⟩, rfl, Nat.le_refl _, ?_, s1.trans (Same.new hw)⟩, ?_⟩
    · rw [upd_ne nfw]
      exact f1
    · exact Same.new hw _ _ upd_same
    · simp only [dues, due, List.flatMap_cons, List.flatMap_nil, List.append_nil, List.nil_append]
      have e : (t.turns.map fun x => fill x []) = t.turns := by
        have : (fun x => fill x []) = (id : T → T) := by
          funext x
          rfl
        rw [this, List.map_id]
      rw [e]
    rintro m σ H1 ⟨us, vs, fs, ws, o3, o4, o5, o6, o7, rfl, a1, a2, a3, a4, a5, a6, a7, a8⟩
    refine ⟨_, rfl, !vs.isEmpty, Or.inl ⟨vs, SqL.of a2, rfl⟩, ?_⟩
    have lenF : fs.length + (dues ws).length + 1 ≤ t.size := by
      have e := a7.length_eq
      rw [List.length_append] at e
      have := turns_len t
      omega
    have lu := a3.length
    have lw := a4.length
    have lw2 := wayN_len ws
    rcases List.eq_nil_or_concat vs with rfl | ⟨ini, last, rfl⟩
    · have e : ws = [] := by
        cases ws with
        | nil => rfl
        | cons _ _ => exact a4.elim
      subst e
      refine ⟨_, rfl, k fl us fs H1 hf a1 a3 ?_ a8⟩
      simpa [dues] using a7
    · rw [List.concat_eq_append] at *
      obtain ⟨es, e, w0, rfl, h1, p, va, vc, rfl, hp, h2, h3⟩ := a4.snoc
      have lw3 := wayN_len es
      have lw4 := h1.length
      have nz : (!(ini ++ [V.ref p]).isEmpty) = true := by simp
      show if (!(ini ++ [V.ref p]).isEmpty) = true then _ else _
      rw [if_pos nz]
      refine ⟨_, fun _ _ z => z, ?_⟩
      refine ⟨_, rfl, Or.inl ⟨rfl, _, SqL.of a2⟩, wl, _, .ref p, rfl, rfl, a2, by simp, ?_⟩
      rw [List.dropLast_concat]
      have kT := keepT (o := .lst ini) a2
      have s2 : Same H (upd H1 wl (.lst ini)) := Same.newer hwH a8
      have b1 : (upd H1 wl (.lst ini)) fl = some (.lst us) := by
        rw [upd_ne nfw]
        exact a1
      have b2 : (upd H1 wl (.lst ini)) wl = some (.lst ini) := upd_same
      have b3 := TreeAll.save2 kT a3
      have b4 := WaitAt.save kT h1
      have c2 := h2.keep kT
      have c3 := WayAt.save kT h3
      have hp2 := kT _ _ hp
      rw [wayN_app] at a5
      simp only [wayN] at a5
      rw [List.length_append, List.length_append] at lw
      simp only [List.length_cons, List.length_nil] at lw
      generalize upd H1 wl (.lst ini) = H2 at *
      refine ⟨p, _, rfl, SqT.of hp2, rfl, _, _, rfl, _, _, rfl, rfl, ?_⟩
      cases e with
      | leaf x =>
        cases (show va = V.str x from c2)
        refine ⟨_, rfl, .str x, .ty "str", _, _, _, rfl, ClsV.ty "str", .base (.str x), kit_str (.str x), _, rfl, ?_⟩
        refine iteT ?_
        refine ⟨wayN es, ?_, us, ini, fs, es, _, _, _, _, _, rfl, b1, b2, b3, b4, rfl, ?_, ?_, s2⟩
        · simp only [T.size] at a5
          omega
        · omega
        · have e2 : dues (es ++ [(T.leaf x, w0)]) = dues es := by simp [dues, due_leaf]
          rw [← e2]
          exact a7
      | node l r =>
        obtain ⟨p2, vl, vr, rfl, hp3, tl, tr⟩ := c2
        simp only [T.size] at a5
        refine ⟨_, rfl, .ref p2, .ty "str", _, _, _, rfl, ClsV.ty "str", .base (.tup hp3), kit_str (.tuple []), _, rfl, ?_⟩
        refine iteF ?_
        refine ⟨_, rfl, p2, _, rfl, SqT.of hp3, rfl, _, _, rfl, _, _, rfl, rfl, ?_⟩
        -- found.extend
        refine ⟨_, rfl, Or.inl ⟨rfl, _, SqL.of b1⟩, _, rfl, _, rfl, vl, vr, l, r, rfl, tl, tr, fun hl cs H3 nh hh ch s3 => ⟨_, rfl, ⟨_, SqL.of hh⟩, fun D hD => ?_⟩⟩
        have steps := dues_step a7
        have cl := ch.length
        have c3' := WayAt.same s3 c3
        refine lc_list (xs := cs) (fun i H4 => ∃ acc : List V, acc.length = i ∧ H4 D = some (.lst acc) ∧ TreeAll H4 acc (((rotL l r ++ rotR l r).take i).map fun x => fill x w0) ∧ Same H3 H4)
          ⟨[], rfl, upd_same, trivial, Same.new hD⟩ (fun i H4 _ ⟨acc, _, _, _, e4⟩ => SqL.of (e4 _ _ hh)) ?_ ?_
        · rintro i x H4 hx ⟨acc, e1, e2, e3, e4⟩
          obtain ⟨tc, htc, tx⟩ := ch.get hx
          have li := (List.getElem?_eq_some_iff.mp hx).1
          refine ⟨rfl, _, rfl, _, rfl, x, vc, tc, w0, rfl, tx.same e4, WayAt.same e4 c3', fun rv H5 t5 s5 => ?_⟩
          have e2' := s5 _ _ e2
          refine ⟨acc, e2', ?_, acc ++ [rv], by simp [e1], upd_same, ?_, Same.newer hD (e4.trans s5)⟩
          · have : (rotL l r ++ rotR l r).length ≤ 2 := by
              cases l <;> cases r <;> simp [rotL, rotR]
            exact small1000 (by omega)
          · rw [List.take_add_one, htc, List.map_append]
            exact (TreeAll.save2 (keepT e2') (TreeAll.same s5 e3)).append ⟨t5.keep (keepT e2'), trivial⟩
        · rintro H4 ⟨acc, e1, e2, e3, e4⟩
          rw [List.take_of_length_le (by omega)] at e3
          have s34 := s3.trans e4
          have b1' := s34 _ _ b1
          have la : acc.length ≤ 2 := by
            have : (rotL l r ++ rotR l r).length ≤ 2 := by
              cases l <;> cases r <;> simp [rotL, rotR]
            omega
          refine ⟨fl, D, us, acc, rfl, rfl, b1', e2, ?_, ?_⟩
          · rw [sizeLine_eq]
            omega
          have kT4 := keepT (o := .lst (us ++ acc)) b1'
          have b2' : upd H4 fl (.lst (us ++ acc)) wl = some (.lst ini) := by
            rw [upd_ne nfw.symm]
            exact s34 _ _ b2
          have b1'' : upd H4 fl (.lst (us ++ acc)) fl = some (.lst (us ++ acc)) := upd_same
          have b3' := TreeAll.save2 kT4 ((TreeAll.same s34 b3).append e3)
          have b4' := WaitAt.save kT4 (WaitAt.same s34 b4)
          have c3'' := WayAt.save kT4 (WayAt.same s34 c3)
          have tl' := (tl.same s34).keep kT4
          have tr' := (tr.same s34).keep kT4
          have s5 : Same H (upd H4 fl (.lst (us ++ acc))) := Same.newer hf (s2.trans s34)
          generalize upd H4 fl (.lst (us ++ acc)) = H5 at *
          -- the left part
          refine ⟨_, rfl, Or.inl ⟨rfl, _, SqL.of b2'⟩, _, rfl, _, rfl, _, rfl, (by show 3 ≤ sizeLine; decide), fun q hq => ⟨(by show 2 ≤ sizeLine; decide), fun q2 hq2 => ?_⟩⟩
          obtain ⟨f3, g1, g2, g3⟩ := made (ys := ini ++ [V.ref q2]) (B := [vl, V.ref q]) b2' hq hq2
          refine ⟨wl, _, _, rfl, rfl, f3, ?_, ?_⟩
          · rw [sizeLine_eq]
            omega
          have kT6 : ∀ c zs, H5 c = some (.tup zs) → upd (upd (upd H5 q (.tup [vc, .non, vr])) q2 (.tup [vl, .ref q])) wl (.lst (ini ++ [.ref q2])) c = some (.tup zs) := fun c zs e => g3 c _ e (ne_of e b2' (by intro z; cases z))
          have b1q := g3 _ _ b1'' nfw
          have b2q : upd (upd (upd H5 q (.tup [vc, .non, vr])) q2 (.tup [vl, .ref q])) wl (.lst (ini ++ [.ref q2])) wl = some (.lst (ini ++ [.ref q2])) := upd_same
          have b3q := TreeAll.save2 kT6 b3'
          have b4q : WaitAt (upd (upd (upd H5 q (.tup [vc, .non, vr])) q2 (.tup [vl, .ref q])) wl (.lst (ini ++ [.ref q2]))) (ini ++ [.ref q2]) (es ++ [(l, .l r :: w0)]) :=
            (WaitAt.save kT6 b4').append ⟨⟨q2, vl, .ref q, rfl, g2, tl'.keep kT6, q, vc, vr, rfl, g1, WayAt.save kT6 c3'', tr'.keep kT6⟩, trivial⟩
          have c3q := WayAt.save kT6 c3''
          have tlq := tl'.keep kT6
          have trq := tr'.keep kT6
          have s6 := sameSave hwH s5 g3
          generalize upd (upd (upd H5 q (.tup [vc, .non, vr])) q2 (.tup [vl, .ref q])) wl (.lst (ini ++ [.ref q2])) = H6 at *
          -- the right part
          refine ⟨_, rfl, Or.inl ⟨rfl, _, SqL.of b2q⟩, _, rfl, _, rfl, _, rfl, (by show 3 ≤ sizeLine; decide), fun q' hq' => ⟨(by show 2 ≤ sizeLine; decide), fun q2' hq2' => ?_⟩⟩
          obtain ⟨f3', g1', g2', g3'⟩ := made (ys := (ini ++ [V.ref q2]) ++ [V.ref q2']) (B := [vr, V.ref q']) b2q hq' hq2'
          refine ⟨wl, _, _, rfl, rfl, f3', ?_, ?_⟩
          · rw [sizeLine_eq, List.length_append, List.length_singleton]
            omega
          have kT7 : ∀ c zs, H6 c = some (.tup zs) → upd (upd (upd H6 q' (.tup [vc, vl, .non])) q2' (.tup [vr, .ref q'])) wl (.lst ((ini ++ [.ref q2]) ++ [.ref q2'])) c = some (.tup zs) := fun c zs e => g3' c _ e (ne_of e b2q (by intro z; cases z))
          refine ⟨wayN (es ++ [(l, .l r :: w0), (r, .r l :: w0)]), ?_, us ++ acc, _, fs ++ (rotL l r ++ rotR l r).map (fun x => fill x w0), es ++ [(l, .l r :: w0), (r, .r l :: w0)], _, _, _, _, _, rfl, g3' _ _ b1q nfw, upd_same,
            TreeAll.save2 kT7 b3q, ?_, rfl, ?_, steps, sameSave hwH s6 g3'⟩
          · rw [wayN_app]
            simp only [wayN]
            omega
          · have e9 : es ++ [(l, .l r :: w0), (r, .r l :: w0)] = (es ++ [(l, Stp.l r :: w0)]) ++ [(r, .r l :: w0)] := by simp
            rw [e9]
            exact (WaitAt.save kT7 b4q).append ⟨⟨q2', vr, .ref q', rfl, g2', trq.keep kT7, q', vc, vl, rfl, g1', WayAt.save kT7 c3q, tlq.keep kT7⟩, trivial⟩
          · rw [wayN_app]
            simp only [wayN]
            omega
end
end K88
namespace K88
open PySem PySem.Spec PyProof.Rows L2 Vr
abbrev sPost : Stmt := top 1
/-- the leaves from left to right, None behind each two -/
def T.post : T → List (Option Str)
  | .leaf x => [some x]
  | .node l r => l.post ++ r.post ++ [none]
def oV : Option Str → V
  | none => .non
  | some x => .str x
def WAt (H : Hp) (v : V) : Option T → Prop
  | none => v = .non
  | some t => TreeAt H v t
def WAll (H : Hp) : List V → List (Option T) → Prop
  | [], [] => True
  | v :: vs, t :: ts => WAt H v t ∧ WAll H vs ts
  | _, _ => False
theorem WAll.length {H : Hp} : ∀ {vs : List V} {ts : List (Option T)}, WAll H vs ts → vs.length = ts.length
  | [], [], _ => rfl
  | _ :: _, _ :: _, h => by simp [h.2.length]
theorem WAll.append {H : Hp} : ∀ {vs ws : List V} {ts us : List (Option T)}, WAll H vs ts → WAll H ws us → WAll H (vs ++ ws) (ts ++ us)
  | [], _, [], _, _, q => q
  | _ :: _, _, _ :: _, _, h, q => ⟨h.1, h.2.append q⟩
theorem WAll.snoc {H : Hp} : ∀ {vs : List V} {v : V} {ts : List (Option T)}, WAll H (vs ++ [v]) ts → ∃ us u, ts = us ++ [u] ∧ WAll H vs us ∧ WAt H v u
  | [], _, [u], h => ⟨[], u, rfl, trivial, h.1⟩
  | [], _, _ :: _ :: _, h => h.2.elim
  | _ :: vs, _, t :: ts, h => by
    obtain ⟨us, u, rfl, h1, h2⟩ := WAll.snoc (vs := vs) h.2
    exact ⟨t :: us, u, rfl, ⟨h.1, h1⟩, h2⟩
def oPost : Option T → List (Option Str)
  | none => [none]
  | some t => t.post
/-- what waiting parts give, the last first -/
def posts : List (Option T) → List (Option Str)
  | [] => []
  | t :: ts => posts ts ++ oPost t
theorem posts_app : ∀ ts us : List (Option T), posts (ts ++ us) = posts us ++ posts ts
  | [], us => by simp [posts]
  | t :: ts, us => by simp only [List.cons_append, posts, posts_app ts us, List.append_assoc]
def T.pz : T → Nat
  | .leaf _ => 1
  | .node l r => 2 + l.pz + r.pz
def oPz : Option T → Nat
  | none => 1
  | some t => t.pz
def pzs : List (Option T) → Nat
  | [] => 0
  | t :: ts => oPz t + pzs ts
theorem pzs_app : ∀ ts us : List (Option T), pzs (ts ++ us) = pzs ts + pzs us
  | [], us => by simp [pzs]
  | t :: ts, us => by
    simp only [List.cons_append, pzs, pzs_app ts us]
    omega
theorem T.pz_pos (t : T) : 1 ≤ t.pz := by
  cases t <;> simp only [T.pz] <;> omega
theorem pzs_len : ∀ ts : List (Option T), ts.length ≤ pzs ts
  | [] => Nat.le_refl _
  | t :: ts => by
    have := pzs_len ts
    have : 1 ≤ oPz t := by
      cases t with
      | none => exact Nat.le_refl _
      | some t => exact t.pz_pos
    simp only [List.length_cons, pzs]
    omega
theorem T.pz_size (t : T) : t.pz + 1 ≤ 2 * t.size := by
  induction t with
  | leaf x => simp [T.pz, T.size]
  | node l r h1 h2 =>
    simp only [T.pz, T.size]
    omega
theorem T.post_len (t : T) : t.post.length ≤ t.pz := by
  induction t with
  | leaf x => simp [T.post, T.pz]
  | node l r h1 h2 =>
    simp only [T.post, T.pz, List.length_append, List.length_singleton]
    omega
def spPost : Sp := fun vs H Q _ => ∃ (v : V) (t : T), vs = [v] ∧ TreeAt H v t ∧ t.size ≤ 1000000 ∧ ∀ (p : Addr) (H' : Hp), H p = none → H' p = some (.lst (t.post.map oV)) → Same H H' → Q (.ref p) H'
section
variable {P : Program} {w : World} {K : PySem.W.Frag} {mg : Str → Option Value} {base : Heap}
abbrev nPost : List Str := ["tree", "found", "waiting", "part", "left", "right"]
theorem scPost : FnScope nPost ["tree"] (defScope sPost) := ⟨rfl, rfl, rfl, by decide +kernel, rfl, by decide +kernel, by decide +kernel⟩
theorem ok_post {f : Addr} {fd : FuncData} (F : Fun K "in_postfix" "in_postfix" sPost f fd) (gIsi : mg "isinstance" = none) (gStr : mg "str" = none) :
    FnOk P w K mg base CX0 1 f fd ["tree"] spPost := by
  refine F.ok scPost (fun vs H Q E h => ?_) (fun cdv A outer s H vs Q E hr h => ?_)
  · obtain ⟨v, t, rfl, _⟩ := h
    rfl
  · obtain ⟨v, t, rfl, ht, hn, k⟩ := h
    refine ⟨_, (pss_cons (ps_set (i := 1) scPost.nd rfl (Or.inl rfl) (pe_lst pa_nil))
      (pss_cons (ps_set (i := 2) scPost.nd rfl (Or.inl rfl) (pe_lst (pa_cons (pv 0) pa_nil)))
      (pss_cons (ps_while PassesOwn.never (pt_truth (pv 2) (by intro _; rfl)) (pss_cons (ps_set (i := 3) scPost.nd rfl (Or.inl rfl) (pe_bm0 PySem.F.plainAttrs_list PySem.F.slot_list_pop PySem.F.type_list_pop mt_pop (pv 2)))
      (pss_one (ps_if (PW.pt (pw_or (pt_cmpR op_isN (pv 3) pe_non (nomark _)) (pw_or1 (pt_val (pe_callB call_isi (by rfl) gIsi (by decide +kernel) (pa_cons (pv 3) (pa_cons (pe_bltn (v := .ty "str") (by rfl) gStr (by decide +kernel) rfl) pa_nil))))))) (pss_one (ps_expr (pe_bm PySem.F.plainAttrs_list PySem.F.slot_list_append PySem.F.type_list_append mt_append (pv 1) (pa_cons (pv 3) pa_nil)))) (pss_cons (ps_asg (pv 3) (pg_tup rfl (pgs_cons (pg_name (i := 4) scPost.nd rfl (Or.inl rfl)) (pgs_cons (pg_name (i := 5) scPost.nd rfl (Or.inl rfl)) pgs_nil))))
      (pss_one (ps_expr (pe_bm PySem.F.plainAttrs_list PySem.F.slot_list_extend PySem.F.type_list_extend mt_extend (pv 2) (pa_cons (pe_lst (pa_cons pe_non (pa_cons (pv 5) (pa_cons (pv 4) pa_nil)))) pa_nil)))))))))
      (pss_one (ps_ret (pv 1)))))), ?_⟩
    refine ⟨(by show 0 ≤ sizeLine; decide), fun rl hrl => ?_⟩
    refine ⟨_, rfl, (by show 1 ≤ sizeLine; decide), fun wl hw => ?_⟩
    have s0 : Same H (upd H rl (.lst [])) := Same.new hrl
    have hwH : H wl = none := s0.free hw
    have nrw : rl ≠ wl := fun z => by
      rw [← z, upd_same] at hw
      cases hw
    have bp : t.post.length ≤ 2000000 := by
      have := t.post_len
      have := t.pz_size
      omega
    refine ⟨fun m σ H1 => ∃ (vs : List V) (ts : List (Option T)) (acc : List (Option Str)) (o3 o4 o5 : Option V), σ = [some v, some (.ref rl), some (.ref wl), o3, o4, o5] ∧ H1 wl = some (.lst vs) ∧ H1 rl = some (.lst (acc.map oV)) ∧
        WAll H vs ts ∧ pzs ts = m ∧ m ≤ 2000000 ∧ t.post = acc ++ posts ts ∧ Same H H1,
      ⟨pzs [some t], [v], [some t], [], none, none, none, rfl, upd_same, ?_, ⟨ht, trivial⟩, rfl, ?_, ?_, s0.trans (Same.new hw)⟩, ?_⟩
    · rw [upd_ne nrw, upd_same]
      rfl
    · have := t.pz_size
      simp only [pzs, oPz]
      omega
    · simp [posts, oPost]
    rintro m σ H1 ⟨vs, ts, acc, o3, o4, o5, rfl, a1, b1, a2, a3, a4, a5, a7⟩
    refine ⟨_, rfl, !vs.isEmpty, Or.inl ⟨vs, SqL.of a1, rfl⟩, ?_⟩
    rcases List.eq_nil_or_concat vs with rfl | ⟨ini, last, rfl⟩
    · have e : ts = [] := by
        cases ts with
        | nil => rfl
        | cons _ _ => exact a2.elim
      subst e
      refine ⟨_, rfl, k rl _ hrl ?_ a7⟩
      rw [b1, a5]
      simp [posts]
    · rw [List.concat_eq_append] at *
      obtain ⟨es, e, rfl, h1, h2⟩ := a2.snoc
      have nz : (!(ini ++ [last]).isEmpty) = true := by simp
      show if (!(ini ++ [last]).isEmpty) = true then _ else _
      rw [if_pos nz]
      refine ⟨_, fun _ _ z => z, ?_⟩
      refine ⟨_, rfl, Or.inl ⟨rfl, _, SqL.of a1⟩, wl, _, last, rfl, rfl, a1, by simp, ?_⟩
      rw [List.dropLast_concat]
      have s2 : Same H (upd H1 wl (.lst ini)) := Same.newer hwH a7
      have b2 : (upd H1 wl (.lst ini)) rl = some (.lst (acc.map oV)) := by
        rw [upd_ne nrw]
        exact b1
      have al : acc.length ≤ 2000000 := by
        have := congrArg List.length a5
        rw [List.length_append] at this
        omega
      have il : ini.length ≤ 2000000 := by
        have e1 := h1.length
        have e2 := pzs_len es
        rw [← a3, pzs_app] at a4
        omega
      have ap : ∀ (u : Option Str) (o3 : Option V), oPost e = [u] → last = oV u → ∃ m' < m, ∃ (vs : List V) (ts : List (Option T)) (acc' : List (Option Str)) (o3' o4' o5' : Option V), [some v, some (.ref rl), some (.ref wl), some last, o4, o5] = [some v, some (.ref rl), some (.ref wl), o3', o4', o5'] ∧ (upd (upd H1 wl (.lst ini)) rl (.lst (acc.map oV ++ [last]))) wl = some (.lst vs) ∧ (upd (upd H1 wl (.lst ini)) rl (.lst (acc.map oV ++ [last]))) rl = some (.lst (acc'.map oV)) ∧
        WAll H vs ts ∧ pzs ts = m' ∧ m' ≤ 2000000 ∧ t.post = acc' ++ posts ts ∧ Same H (upd (upd H1 wl (.lst ini)) rl (.lst (acc.map oV ++ [last]))) := fun u o3 ep el => by
        have p1 : 1 ≤ oPz e := by
          cases e with
          | none => exact Nat.le_refl _
          | some t => exact t.pz_pos
        rw [pzs_app, pzs, pzs] at a3
        refine ⟨pzs es, by omega, ini, es, acc ++ [u], _, _, _, rfl, ?_, ?_, h1, rfl, by omega, ?_, Same.newer hrl s2⟩
        · rw [upd_ne nrw.symm, upd_same]
        · rw [upd_same, List.map_append, el]
          rfl
        · rw [a5, posts_app]
          simp [posts, ep]
      have na : (acc.map oV).length < sizeLine := by
        rw [List.length_map, sizeLine_eq]
        omega
      cases e with
      | none =>
        cases (show last = V.non from h2)
        refine ⟨_, rfl, rfl, _, rfl, ?_⟩
        refine iteT ?_
        exact ⟨_, rfl, Or.inl ⟨rfl, _, SqL.of b2⟩, _, rfl, rl, _, _, rfl, rfl, b2, na, ap none none rfl rfl⟩
      | some e =>
        cases e with
        | leaf x =>
          cases (show last = V.str x from h2)
          refine ⟨_, rfl, rfl, _, rfl, ?_⟩
          refine iteF ?_
          refine ⟨_, rfl, .str x, .ty "str", _, _, _, rfl, ClsV.ty "str", .base (.str x), kit_str (.str x), _, rfl, ?_⟩
          refine iteT ?_
          exact ⟨_, rfl, Or.inl ⟨rfl, _, SqL.of b2⟩, _, rfl, rl, _, _, rfl, rfl, b2, na, ap (some x) none rfl rfl⟩
        | node l r =>
          obtain ⟨p, va, vc, rfl, hp, hl, hr'⟩ := (show TreeAt H last (.node l r) from h2)
          have hp2 := s2 _ _ hp
          refine ⟨_, rfl, rfl, _, rfl, ?_⟩
          refine iteF ?_
          refine ⟨_, rfl, .ref p, .ty "str", _, _, _, rfl, ClsV.ty "str", .base (.tup hp2), kit_str (.tuple []), _, rfl, ?_⟩
          refine iteF ?_
          refine ⟨_, rfl, p, _, rfl, SqT.of hp2, rfl, _, _, rfl, _, _, rfl, rfl, ?_⟩
          refine ⟨_, rfl, Or.inl ⟨rfl, _, SqL.of upd_same⟩, _, rfl, _, rfl, (by show 3 ≤ sizeLine; decide), fun q hq => ?_⟩
          have nwq : wl ≠ q := fun z => by
            rw [← z, upd_same] at hq
            cases hq
          have nrq : rl ≠ q := fun z => by
            rw [← z, b2] at hq
            cases hq
          have w3 : (upd (upd H1 wl (.lst ini)) q (.lst [.non, vc, va])) wl = some (.lst ini) := by
            rw [upd_ne nwq, upd_same]
          refine ⟨wl, q, ini, [.non, vc, va], rfl, rfl, w3, upd_same, ?_, ?_⟩
          · rw [sizeLine_eq]
            show ini.length + 3 ≤ _
            omega
          · have e3 : pzs (es ++ [none, some r, some l]) < m ∧ pzs (es ++ [none, some r, some l]) ≤ 2000000 := by
              rw [pzs_app] at a3 ⊢
              simp only [pzs, oPz, T.pz] at a3 ⊢
              omega
            refine ⟨_, e3.1, ini ++ [.non, vc, va], es ++ [none, some r, some l], acc, some (.ref p), some va, some vc, rfl, upd_same, ?_, h1.append ⟨rfl, hr', hl, trivial⟩, rfl, e3.2, ?_, Same.newer hwH (s2.trans (Same.new hq))⟩
            · rw [upd_ne nrw, upd_ne nrq]
              exact b2
            · rw [a5, posts_app, posts_app]
              simp [posts, oPost, T.post]
end
end K88
namespace K88
open PySem PySem.Spec PyProof.Rows L2 Vr VM
abbrev sIsTurn : Stmt := top 5
abbrev sRight : Stmt := top 6
abbrev sNumber : Stmt := top 7
def Dens (ks : List Ky) : List Nat → List T → Prop
  | [], [] => True
  | i :: is, t :: ts => Den ks i t ∧ Dens ks is ts
  | _, _ => False
theorem Dens.snoc {ks : List Ky} : ∀ {is : List Nat} {i : Nat} {ts : List T}, Dens ks (is ++ [i]) ts → ∃ us u, ts = us ++ [u] ∧ Dens ks is us ∧ Den ks i u
  | [], _, [u], h => ⟨[], u, rfl, trivial, h.1⟩
  | [], _, _ :: _ :: _, h => h.2.elim
  | _ :: is, _, t :: ts, h => by
    obtain ⟨us, u, rfl, h1, h2⟩ := Dens.snoc (is := is) h.2
    exact ⟨t :: us, u, rfl, ⟨h.1, h1⟩, h2⟩
theorem Dens.append {ks : List Ky} : ∀ {is js : List Nat} {ts us : List T}, Dens ks is ts → Dens ks js us → Dens ks (is ++ js) (ts ++ us)
  | [], _, [], _, _, q => q
  | _ :: _, _, _ :: _, _, h, q => ⟨h.1, h.2.append q⟩
theorem Dens.mono {ks ys : List Ky} : ∀ {is : List Nat} {ts : List T}, Dens ks is ts → Dens (ks ++ ys) is ts
  | [], [], _ => trivial
  | _ :: _, _ :: _, h => ⟨h.1.mono, Dens.mono h.2⟩
theorem Dens.length {ks : List Ky} : ∀ {is : List Nat} {ts : List T}, Dens ks is ts → is.length = ts.length
  | [], [], _ => rfl
  | _ :: _, _ :: _, h => by simp [h.2.length]
def nV (is : List Nat) : List V := is.map fun (i : Nat) => V.int (i : Int)
/-- what the loop over the postfix row leaves on the stack, the last first -/
def prun : List (Option Str) → List T → Option (List T)
  | [], st => some st
  | some x :: r, st => prun r (.leaf x :: st)
  | none :: r, b :: a :: st => prun r (.node a b :: st)
  | none :: _, _ => none
theorem prun_post : ∀ (t : T) (r : List (Option Str)) (st : List T), prun (t.post ++ r) st = prun r (t :: st)
  | .leaf x, r, st => rfl
  | .node a b, r, st => by
    show prun (a.post ++ b.post ++ [none] ++ r) st = _
    rw [List.append_assoc, List.append_assoc, prun_post a, prun_post b]
    rfl
/-- the dict numbers has what it had and more, all else stands -/
structure NSt (P : Program) (w : World) (H0 H1 : Hp) (d dn l : Addr) (ps : List V) (ks0 ks : List MK) (ir : List Nat) (st : List T) : Prop where
  num : H1 d = some (DM P w d ks)
  pr : Pairs H1 ks
  nd : (ks.map MK.told).Nodup
  ext : ∃ ys, ks = ks0 ++ ys
  don : H1 dn = some (.lst (nV ir.reverse))
  den : Dens (ks.map MK.told) ir st
  pos : H1 l = some (.lst ps)
  but : But d H0 H1
theorem nV_cons (i : Nat) (ir : List Nat) : nV (i :: ir).reverse = nV ir.reverse ++ [V.int (i : Int)] := by simp [nV]
theorem nV_len (ir : List Nat) : (nV ir).length = ir.length := by simp [nV]
theorem dm_ne {P : Program} {w : World} {H : Hp} {d q : Addr} {ks : List MK} {xs : List V} (h : H d = some (DM P w d ks)) (g : H q = some (.tup xs)) : q ≠ d := fun z => by
  rw [z, h] at g
  unfold DM at g
  cases g
theorem dm_ne' {P : Program} {w : World} {H : Hp} {d q : Addr} {ks : List MK} {xs : List V} (h : H d = some (DM P w d ks)) (g : H q = some (.lst xs)) : q ≠ d := fun z => by
  rw [z, h] at g
  unfold DM at g
  cases g
section
variable {P : Program} {w : World} {H0 H1 : Hp} {d dn l : Addr} {ps : List V} {ks0 ks : List MK} {ir : List Nat} {st : List T}
theorem NSt.done' (h : NSt P w H0 H1 d dn l ps ks0 ks ir st) (n1 : dn ≠ l) (hn : H0 dn = none) {ir' : List Nat} {st' : List T} (g : Dens (ks.map MK.told) ir' st') : NSt P w H0 (upd H1 dn (.lst (nV ir'.reverse))) d dn l ps ks0 ks ir' st' where
  num := by rw [upd_ne (dm_ne' h.num h.don).symm]; exact h.num
  pr := h.pr.keep (keepT h.don)
  nd := h.nd
  ext := h.ext
  don := upd_same
  den := g
  pos := by rw [upd_ne n1.symm]; exact h.pos
  but := fun c o e n => by
    rw [upd_ne (ne_of_none e hn)]
    exact h.but c o e n
theorem NSt.new' (h : NSt P w H0 H1 d dn l ps ks0 ks ir st) {q : Addr} {o : HO} (hq : H1 q = none) : NSt P w H0 (upd H1 q o) d dn l ps ks0 ks ir st where
  num := Same.new hq _ _ h.num
  pr := h.pr.keep (sameT (Same.new hq))
  nd := h.nd
  ext := h.ext
  don := Same.new hq _ _ h.don
  den := h.den
  pos := Same.new hq _ _ h.pos
  but := fun c o e n => Same.new hq _ _ (h.but c o e n)
theorem keepD {P : Program} {w : World} {H : Hp} {d : Addr} {ks : List MK} {o : HO} (hf : H d = some (DM P w d ks)) : ∀ p zs, H p = some (.tup zs) → upd H d o p = some (.tup zs) := fun p zs e => by
  rw [upd_ne (dm_ne hf e)]
  exact e
theorem NSt.num' (h : NSt P w H0 H1 d dn l ps ks0 ks ir st) {k : MK} (hk : ∀ q i j, k = .p q i j → H1 q = some (.tup [.int i, .int j])) (no : ∀ (m : Nat) (l : MK), ks[m]? = some l → l.told ≠ k.told) :
    NSt P w H0 (upd H1 d (DM P w d (ks ++ [k]))) d dn l ps ks0 (ks ++ [k]) ir st where
  num := upd_same
  pr := fun q i j m => by
    refine keepD h.num _ _ ?_
    rcases List.mem_append.mp m with m | m
    · exact h.pr q i j m
    · exact hk q i j (List.mem_singleton.mp m).symm
  nd := by
    rw [List.map_append, List.nodup_append]
    refine ⟨h.nd, by simp, ?_⟩
    intro a ha b hb
    obtain ⟨l, hl, rfl⟩ := List.mem_map.mp ha
    obtain ⟨m, hm⟩ := List.mem_iff_getElem?.mp hl
    have eb : b = k.told := by simpa using hb
    rw [eb]
    exact no m l hm
  ext := by
    obtain ⟨ys, e⟩ := h.ext
    exact ⟨ys ++ [k], by rw [e, List.append_assoc]⟩
  don := by rw [upd_ne (dm_ne' h.num h.don)]; exact h.don
  den := by rw [List.map_append]; exact h.den.mono
  pos := by rw [upd_ne (dm_ne' h.num h.pos)]; exact h.pos
  but := fun c o e n => by
    rw [upd_ne n]
    exact h.but c o e n
end
/-- Nums: the dict at d numbers ks -/
structure Nums (P : Program) (w : World) (H : Hp) (d : Addr) (ks : List MK) : Prop where
  num : H d = some (DM P w d ks)
  pr : Pairs H ks
  nd : (ks.map MK.told).Nodup
def spNumber (P : Program) (w : World) : Sp := fun vs H Q _ => ∃ (v : V) (t : T) (d : Addr) (ks : List MK), vs = [v, .ref d] ∧ TreeAt H v t ∧ Nums P w H d ks ∧ t.size ≤ 10000 ∧ ks.length ≤ 100000 ∧
  ∀ (i : Nat) (ys : List MK) (H' : Hp), Nums P w H' d (ks ++ ys) → Den ((ks ++ ys).map MK.told) i t → ys.length ≤ 2 * t.size → But d H H' → Q (.int (i : Int)) H'
theorem nV_last (is : List Nat) (i : Nat) : nV (is ++ [i]) = nV is ++ [V.int (i : Int)] := by simp [nV]
section
variable {P : Program} {w : World} {K : PySem.W.Frag} {mg : Str → Option Value} {base : Heap}
abbrev nNumber : List Str := ["tree", "numbers", "done", "name", "right", "left"]
theorem scNumber : FnScope nNumber ["tree", "numbers"] (defScope sNumber) := ⟨rfl, rfl, rfl, by decide +kernel, rfl, by decide +kernel, by decide +kernel⟩
theorem ok_number {f fP : Addr} {fd fdP : FuncData} (F : Fun K "_number" "_number" sNumber f fd) (GP : FnOk P w K mg base CX0 1 fP fdP ["tree"] spPost) (bP : Binds K fdP ["tree"] []) (mP : mg "in_postfix" = some (.ref fP)) (kP : PySem.W.keepIn K (.ref fP) = true) (gLen : mg "len" = none) : FnOk P w K mg base CX0 2 f fd ["tree", "numbers"] (spNumber P w) := by
  refine F.ok scNumber (fun vs H Q E h => ?_) (fun cdv A outer s H vs Q E hr h => ?_)
  · obtain ⟨v, t, d, ks, rfl, _⟩ := h
    rfl
  · obtain ⟨v, t, d, ks0, rfl, ht, hn, hz, hk, k⟩ := h
    have r1 : Room 1 _ := hr
    refine ⟨_, (pss_cons (ps_set (i := 2) scNumber.nd rfl (Or.inl rfl) (pe_lst pa_nil))
      (pss_cons (ps_for PassesOwn.never rfl (pi_list (pe_call GP r1 (by rfl) mP kP bP .nil pass0 (pa_cons (pv 0) pa_nil))) (pg_name (i := 3) scNumber.nd rfl (Or.inl rfl)) (pss_one (ps_if (pt_cmpR op_isN (pv 3) pe_non (nomark _)) (pss_cons (ps_set (i := 4) scNumber.nd rfl (Or.inl rfl) (pe_bm0 PySem.F.plainAttrs_list PySem.F.slot_list_pop PySem.F.type_list_pop mt_pop (pv 2)))
      (pss_cons (ps_set (i := 5) scNumber.nd rfl (Or.inl rfl) (pe_bm0 PySem.F.plainAttrs_list PySem.F.slot_list_pop PySem.F.type_list_pop mt_pop (pv 2)))
      (pss_one (ps_expr (pe_bm PySem.F.plainAttrs_list PySem.F.slot_list_append PySem.F.type_list_append mt_append (pv 2) (pa_cons (pe_setdM (hu_of hr) (pv 1) (pa_cons (pe_tup (pa_cons (pv 5) (pa_cons (pv 4) pa_nil))) (pa_cons (pe_callB call_lenM (by rfl) gLen PySem.boot_len (pa_cons (pv 1) pa_nil)) pa_nil)) ⟨rfl, rfl, rfl, rfl⟩) pa_nil)))))) (pss_one (ps_expr (pe_bm PySem.F.plainAttrs_list PySem.F.slot_list_append PySem.F.type_list_append mt_append (pv 2) (pa_cons (pe_setdM (hu_of hr) (pv 1) (pa_cons (pv 3) (pa_cons (pe_callB call_lenM (by rfl) gLen PySem.boot_len (pa_cons (pv 1) pa_nil)) pa_nil)) ⟨rfl, rfl, rfl, rfl⟩) pa_nil)))))))
      (pss_one (ps_ret (pe_ix ix_list (pv 2) pe_int (fun _ _ => rfl)))))), ?_⟩
    refine ⟨(by show 0 ≤ sizeLine; decide), fun dn hdn => ?_⟩
    have s0 : Same H (upd H dn (.lst [])) := Same.new hdn
    refine ⟨_, rfl, v, t, rfl, ht.same s0, by omega, fun l HA nl hl sA => ?_⟩
    have s1 := s0.trans sA
    have f1 : HA dn = some (.lst []) := sA _ _ upd_same
    have ndl : dn ≠ l := fun z => by
      rw [← z, upd_same] at nl
      cases nl
    have pl : t.post.length ≤ 2 * t.size := by
      have := t.post_len
      have := t.pz_size
      omega
    have pm : (t.post.map oV).length = t.post.length := List.length_map _
    refine ⟨l, rfl, ⟨_, SqL.of hl⟩, ?_⟩
    refine for_list (xs := t.post.map oV) (fun i σ H1 => ∃ (ks : List MK) (ir : List Nat) (st : List T) (o3 o4 o5 : Option V), σ = [some v, some (.ref d), some (.ref dn), o3, o4, o5] ∧
        NSt P w H H1 d dn l (t.post.map oV) ks0 ks ir st ∧ prun (t.post.drop i) st = some [t] ∧ i ≤ t.post.length ∧ ks.length ≤ ks0.length + i ∧ ir.length ≤ i)
      ⟨ks0, [], [], none, none, none, rfl, ?_, ?_, Nat.zero_le _, Nat.le_refl _, Nat.le_refl _⟩ ?_ ?_ ?_
    · exact { num := s1 _ _ hn.num, pr := hn.pr.keep (sameT s1), nd := hn.nd, ext := ⟨[], by simp⟩, don := f1, den := trivial, pos := hl, but := fun c o e _ => s1 c o e }
    · rw [List.drop_zero]
      have := prun_post t [] []
      rw [List.append_nil] at this
      exact this
    · rintro i σ H1 _ ⟨ks, ir, st, o3, o4, o5, rfl, N, _⟩
      exact SqL.of N.pos
    · rintro i x σ H1 hx ⟨ks, ir, st, o3, o4, o5, rfl, N2, a6, a7, a8, a9⟩
      rw [List.getElem?_map] at hx
      cases ho : t.post[i]? with
      | none =>
        rw [ho] at hx
        cases hx
      | some o =>
        rw [ho] at hx
        cases hx
        have hi : i < t.post.length := (List.getElem?_eq_some_iff.mp ho).1
        have dr : t.post.drop i = o :: t.post.drop (i + 1) := by
          rw [List.drop_eq_getElem_cons hi]
          congr 1
          exact (List.getElem?_eq_some_iff.mp ho).2
        rw [dr] at a6
        have sml : ir.length < sizeLine := by
          rw [sizeLine_eq]
          omega
        cases o with
        | none =>
          refine ⟨_, rfl, rfl, _, rfl, ?_⟩
          refine iteT ?_
          match st, ir, N2, a6, a9 with
          | r :: l' :: st, b :: a :: ir, N2, a6, a9 =>
            obtain ⟨d1, d2, d3⟩ := N2.den
            simp only [List.length_cons] at a9
            have hd := N2.don
            rw [nV_cons] at hd
            refine ⟨_, rfl, Or.inl ⟨rfl, _, SqL.of hd⟩, dn, _, .int b, rfl, rfl, hd, by simp, ?_⟩
            rw [List.dropLast_concat]
            have N3 := N2.done' ndl hdn (ir' := a :: ir) (st' := l' :: st) ⟨d2, d3⟩
            clear hd
            generalize upd H1 dn (.lst (nV (a :: ir).reverse)) = H3 at *
            have hd := N3.don
            rw [nV_cons] at hd
            refine ⟨_, rfl, Or.inl ⟨rfl, _, SqL.of hd⟩, dn, _, .int a, rfl, rfl, hd, by simp, ?_⟩
            rw [List.dropLast_concat]
            have N4 := N3.done' ndl hdn (ir' := ir) (st' := st) d3
            generalize upd H3 dn (.lst (nV ir.reverse)) = H4 at *
            refine ⟨_, rfl, Or.inl ⟨rfl, _, SqL.of N4.don⟩, _, rfl, ⟨d, ks, rfl, N4.num⟩, _, rfl, _, rfl, (by show 2 ≤ sizeLine; decide), fun q hq => ?_⟩
            have N5 := N4.new' (o := .tup [.int a, .int b]) hq
            have hq5 : upd H4 q (.tup [.int a, .int b]) q = some (.tup [.int a, .int b]) := upd_same
            generalize upd H4 q (.tup [.int a, .int b]) = H5 at *
            have pk5 : ∀ q' i j, MK.p q a b = .p q' i j → H5 q' = some (.tup [.int i, .int j]) := fun q' i j z => by
              cases z
              exact hq5
            have sml : ir.length < sizeLine := by
              rw [sizeLine_eq]
              omega
            refine ⟨_, rfl, d, ks, rfl, N5.num, d, ks, .p q a b, rfl, rfl, N5.num, N5.pr, pk5, ?_, fun m' k' hk' same => ?_, fun no => ?_⟩
            · rw [sizeLine_eq]
              omega
            · have D : Den (ks.map MK.told) m' (.node l' r) := .node (a := a) (b := b) (by rw [List.getElem?_map, hk', Option.map_some, same]; rfl) d2 d1
              refine ⟨dn, _, _, rfl, rfl, N5.don, by rw [nV_len, List.length_reverse]; exact sml, ?_⟩
              rw [← nV_cons]
              exact ⟨ks, m' :: ir, .node l' r :: st, _, _, _, rfl, N5.done' ndl hdn ⟨D, d3⟩, a6, hi, by omega, by simp only [List.length_cons]; omega⟩
            · have N6 := N5.num' pk5 no
              have D : Den ((ks ++ [MK.p q a b]).map MK.told) ks.length (.node l' r) := by
                refine .node (a := a) (b := b) ?_ ?_ ?_
                · rw [List.getElem?_map, List.getElem?_append_right (Nat.le_refl _), Nat.sub_self]
                  rfl
                · rw [List.map_append]
                  exact d2.mono
                · rw [List.map_append]
                  exact d1.mono
              refine ⟨dn, _, _, rfl, rfl, N6.don, by rw [nV_len, List.length_reverse]; exact sml, ?_⟩
              rw [← nV_cons]
              refine ⟨ks ++ [MK.p q a b], ks.length :: ir, .node l' r :: st, _, _, _, rfl, N6.done' ndl hdn (ir' := ks.length :: ir) (st' := .node l' r :: st) ⟨D, N6.den⟩, a6, hi, ?_, by simp only [List.length_cons]; omega⟩
              rw [List.length_append, List.length_singleton]
              omega
        | some x =>
          refine ⟨_, rfl, rfl, _, rfl, ?_⟩
          refine iteF ?_
          have pk5 : ∀ q' i j, MK.s x = .p q' i j → H1 q' = some (.tup [.int i, .int j]) := fun q' i j z => by cases z
          refine ⟨_, rfl, Or.inl ⟨rfl, _, SqL.of N2.don⟩, _, rfl, ⟨d, ks, rfl, N2.num⟩, _, rfl, _, rfl, d, ks, rfl, N2.num, d, ks, .s x, rfl, rfl, N2.num, N2.pr, pk5, ?_, fun m' k' hk' same => ?_, fun no => ?_⟩
          · rw [sizeLine_eq]
            omega
          · have D : Den (ks.map MK.told) m' (.leaf x) := .leaf (by rw [List.getElem?_map, hk', Option.map_some, same]; rfl)
            refine ⟨dn, _, _, rfl, rfl, N2.don, by rw [nV_len, List.length_reverse]; exact sml, ?_⟩
            rw [← nV_cons]
            exact ⟨ks, m' :: ir, .leaf x :: st, _, _, _, rfl, N2.done' ndl hdn ⟨D, N2.den⟩, a6, hi, by omega, by simp only [List.length_cons]; omega⟩
          · have N6 := N2.num' pk5 no
            have D : Den ((ks ++ [MK.s x]).map MK.told) ks.length (.leaf x) := .leaf (by
              rw [List.getElem?_map, List.getElem?_append_right (Nat.le_refl _), Nat.sub_self]
              rfl)
            refine ⟨dn, _, _, rfl, rfl, N6.don, by rw [nV_len, List.length_reverse]; exact sml, ?_⟩
            rw [← nV_cons]
            refine ⟨ks ++ [MK.s x], ks.length :: ir, .leaf x :: st, _, _, _, rfl, N6.done' ndl hdn (ir' := ks.length :: ir) (st' := .leaf x :: st) ⟨D, N6.den⟩, a6, hi, ?_, by simp only [List.length_cons]; omega⟩
            rw [List.length_append, List.length_singleton]
            omega
    · rintro σ H1 ⟨ks, ir, st, o3, o4, o5, rfl, N, a6, a7, a8, a9⟩
      rw [pm] at a6 a8 a9
      rw [List.drop_length] at a6
      have e2 : st = [t] := by simpa [prun] using a6
      subst e2
      obtain ⟨i, rfl⟩ : ∃ i, ir = [i] := by
        have := N.den.length
        exact List.length_eq_one_iff.mp this
      obtain ⟨ys, rfl⟩ := N.ext
      refine ⟨_, rfl, dn, _, _, _, rfl, rfl, SqL.of N.don, rfl, ?_⟩
      refine k i ys H1 ⟨N.num, N.pr, N.nd⟩ N.den.1 ?_ N.but
      rw [List.length_append] at a8
      omega
end
end K88
namespace K88
open PySem PySem.Spec PyProof.Rows L2 Vr VM
def Rot (A B C D : T) : Prop := ∃ p q, A = .node p q ∧ C = p ∧ D = .node q B
def spRight : Sp := fun vs H Q _ => ∃ (pp q1 q2 : Addr) (ks : List MK) (a b c d : Nat) (A B C D : T), vs = [.ref pp, .ref q1, .ref q2] ∧ H pp = some (.lst (ks.map MK.v)) ∧ Pairs H ks ∧ (ks.map MK.told).Nodup ∧
  H q1 = some (.tup [.int a, .int b]) ∧ H q2 = some (.tup [.int c, .int d]) ∧ Den (ks.map MK.told) a A ∧ Den (ks.map MK.told) b B ∧ Den (ks.map MK.told) c C ∧ Den (ks.map MK.told) d D ∧
  ∀ (r : Bool) (H' : Hp), (r = true ↔ Rot A B C D) → Same H H' → Q (.bl r) H'
def spIsTurn : Sp := fun vs H Q _ => ∃ (v u : V) (t o : T), vs = [v, u] ∧ TreeAt H v t ∧ TreeAt H u o ∧ t.size ≤ 10000 ∧ o.size ≤ 10000 ∧ ∀ (r : Bool) (H' : Hp), (r = true ↔ o ∈ t.turns) → Same H H' → Q (.bl r) H'
/-- the key of a number -/
theorem at_den {ks : List MK} {i : Nat} {t : T} (h : Den (ks.map MK.told) i t) : ∃ k, ks[i]? = some k ∧ ((∃ x, k = .s x ∧ t = .leaf x) ∨ ∃ q a b l r, k = .p q ((a : Nat) : Int) ((b : Nat) : Int) ∧ t = .node l r ∧ Den (ks.map MK.told) a l ∧ Den (ks.map MK.told) b r) := by
  cases h with
  | @leaf _ x e =>
    rw [List.getElem?_map] at e
    obtain ⟨k, hk, e⟩ := Option.map_eq_some_iff.mp e
    refine ⟨k, hk, .inl ⟨x, ?_, rfl⟩⟩
    cases k with
    | s y =>
      injection e with e
      rw [e]
    | p q m n => cases e
  | @node _ a b l r e h1 h2 =>
    rw [List.getElem?_map] at e
    obtain ⟨k, hk, e⟩ := Option.map_eq_some_iff.mp e
    refine ⟨k, hk, .inr ?_⟩
    cases k with
    | s y => cases e
    | p q m n =>
      injection e with e
      injection e with e1 e2
      subst e1 e2
      exact ⟨q, a, b, l, r, rfl, rfl, h1, h2⟩
theorem atV {ks : List MK} {i : Nat} {k : MK} (h : ks[i]? = some k) : atI (ks.map MK.v) (i : Int) = some k.v := atI_nat (by rw [List.getElem?_map, h]; rfl)
theorem ne_int {i j : Nat} (h : i ≠ j) : ¬ V.int (i : Int) = V.int (j : Int) := fun z => h (by
  injection z with z
  exact Int.ofNat.inj z)
theorem eqv3 (x y b c z u : Int) : PyData.eqv (.tuple [.int x, .int y, .int b]) (.tuple [.int c, .int z, .int u]) = decide (x = c ∧ y = z ∧ b = u) := by
  by_cases h1 : x = c <;> by_cases h2 : y = z <;> by_cases h3 : b = u <;> simp [PyData.eqv, PyData.eqvAll, h1, h2, h3]
section
variable {P : Program} {w : World} {K : PySem.W.Frag} {mg : Str → Option Value} {base : Heap}
theorem scRight : FnScope ["parts", "first", "second", "low", "high"] ["parts", "first", "second"] (defScope sRight) := ⟨rfl, rfl, rfl, by decide +kernel, rfl, by decide +kernel, by decide +kernel⟩
theorem ok_right {f : Addr} {fd : FuncData} (F : Fun K "_turns_right" "_turns_right" sRight f fd) (gIsi : mg "isinstance" = none) (gStr : mg "str" = none) : FnOk P w K mg base CX0 1 f fd ["parts", "first", "second"] spRight := by
  refine F.ok scRight (fun vs H Q E h => ?_) (fun cdv A' outer s H vs Q E hr h => ?_)
  · obtain ⟨pp, q1, q2, ks, a, b, c, d, A, B, C, D, rfl, _⟩ := h
    rfl
  · obtain ⟨pp, q1, q2, ks, a, b, c, d, A, B, C, D, rfl, hp, pr, nd, h1, h2, dA, dB, dC, dD, k⟩ := h
    refine ⟨_, pss_cons (ps_par (i := 3) (j := 4) (by rfl) scRight.nd rfl rfl (by decide) rfl rfl (pa_cons (pe_ix ix_list (pv 0) (pe_ix ix_tup (pv 1) pe_int (fun _ _ => rfl)) (fun _ _ => rfl)) (pa_cons (pe_ix ix_list (pv 0) (pe_ix ix_tup (pv 2) pe_int (fun _ _ => rfl)) (fun _ _ => rfl)) pa_nil)) (by rfl))
      (pss_cons (ps_if (PW.pt (pw_or (pt_val (pe_callB call_isi (by rfl) gIsi (by decide +kernel) (pa_cons (pv 3) (pa_cons (pe_bltn (v := .ty "str") (by rfl) gStr (by decide +kernel) rfl) pa_nil))))
        (pw_or1 (pt_val (pe_callB call_isi (by rfl) gIsi (by decide +kernel) (pa_cons (pv 4) (pa_cons (pe_bltn (v := .ty "str") (by rfl) gStr (by decide +kernel) rfl) pa_nil))))))) (pss_one (ps_ret pe_bl)) pss_nil)
      (pss_one (ps_ret (pe_cmpR (op_eqD hr.units) (pe_tup (pa_cons (pe_ix ix_tup (pv 3) pe_int (fun _ _ => rfl)) (pa_cons (pe_ix ix_tup (pv 3) pe_int (fun _ _ => rfl)) (pa_cons (pe_ix ix_tup (pv 1) pe_int (fun _ _ => rfl)) pa_nil))))
        (pe_tup (pa_cons (pe_ix ix_tup (pv 2) pe_int (fun _ _ => rfl)) (pa_cons (pe_ix ix_tup (pv 4) pe_int (fun _ _ => rfl)) (pa_cons (pe_ix ix_tup (pv 4) pe_int (fun _ _ => rfl)) pa_nil)))) (nomark _))))), ?_⟩
    obtain ⟨ka, hka, sa⟩ := at_den dA
    obtain ⟨kd, hkd, sd⟩ := at_den dD
    refine ⟨_, rfl, _, rfl, q1, _, _, _, rfl, rfl, SqT.of h1, rfl, pp, _, _, _, rfl, rfl, SqL.of hp, atV hka, _, rfl, _, rfl, q2, _, _, _, rfl, rfl, SqT.of h2, rfl, pp, _, _, _, rfl, rfl, SqL.of hp, atV hkd, _, _, rfl, ?_⟩
    rcases sa with ⟨x, rfl, rfl⟩ | ⟨q3, x, y, X, Y, rfl, rfl, dX, dY⟩
    · refine ⟨_, rfl, .str x, .ty "str", _, _, _, rfl, ClsV.ty "str", .base (.str x), kit_str (.str x), _, rfl, ?_⟩
      refine iteT ?_
      refine k false _ ⟨fun z => (by cases z), fun z => ?_⟩ (Same.refl H)
      obtain ⟨p, q, z, _⟩ := z
      cases z
    have h3 := pr _ _ _ (List.mem_of_getElem? hka)
    refine ⟨_, rfl, .ref q3, .ty "str", _, _, _, rfl, ClsV.ty "str", .base (.tup h3), kit_str (.tuple []), _, rfl, ?_⟩
    refine iteF ?_
    rcases sd with ⟨x', rfl, rfl⟩ | ⟨q4, z, u, Z, U, rfl, rfl, dZ, dU⟩
    · refine ⟨_, rfl, .str x', .ty "str", _, _, _, rfl, ClsV.ty "str", .base (.str x'), kit_str (.str x'), _, rfl, ?_⟩
      refine iteT ?_
      refine k false _ ⟨fun z => (by cases z), fun z => ?_⟩ (Same.refl H)
      obtain ⟨p, q, _, _, z⟩ := z
      cases z
    have h4 := pr _ _ _ (List.mem_of_getElem? hkd)
    refine ⟨_, rfl, .ref q4, .ty "str", _, _, _, rfl, ClsV.ty "str", .base (.tup h4), kit_str (.tuple []), _, rfl, ?_⟩
    refine iteF ?_
    refine ⟨_, rfl, q3, _, _, _, rfl, rfl, SqT.of h3, rfl, _, rfl, q3, _, _, _, rfl, rfl, SqT.of h3, rfl, _, rfl, q1, _, _, _, rfl, rfl, SqT.of h1, rfl, (by show 3 ≤ sizeLine; decide), fun p1 n1 => ?_⟩
    have s1 := Same.new (o := .tup [.int x, .int y, .int b]) n1
    refine ⟨_, rfl, q2, _, _, _, rfl, rfl, SqT.of (s1 _ _ h2), rfl, _, rfl, q4, _, _, _, rfl, rfl, SqT.of (s1 _ _ h4), rfl, _, rfl, q4, _, _, _, rfl, rfl, SqT.of (s1 _ _ h4), rfl, (by show 3 ≤ sizeLine; decide), fun p2 n2 => ?_⟩
    have s2 := Same.new (o := .tup [.int c, .int z, .int u]) n2
    refine ⟨.tuple [.int x, .int y, .int b], .tuple [.int c, .int z, .int u], (DatAt.tup (s2 _ _ upd_same) (.cons (.int x) (.cons (.int y) (.cons (.int b) .nil)))).dp, (DatAt.tup upd_same (.cons (.int c) (.cons (.int z) (.cons (.int u) .nil)))).dp, rfl, rfl, ?_⟩
    rw [eqv3]
    refine k _ _ ?_ (s1.trans s2)
    rw [decide_eq_true_iff]
    constructor
    · rintro ⟨e1, e2, e3⟩
      have e1 := Int.ofNat.inj e1
      have e2 := Int.ofNat.inj e2
      have e3 := Int.ofNat.inj e3
      subst e1 e2 e3
      exact ⟨X, Y, rfl, dC.fun dX, by rw [dZ.fun dY, dU.fun dB]⟩
    · rintro ⟨p, q, e1, e2, e3⟩
      injection e1 with e1 e1'
      injection e3 with e3 e3'
      subst e1 e1' e2 e3 e3'
      rw [dX.inj nd dC, dY.inj nd dZ, dB.inj nd dU]
      exact ⟨rfl, rfl, rfl⟩
abbrev nIsTurn : List Str := ["tree", "other", "numbers", "one", "two", "parts", "first", "second"]
theorem scIsTurn : FnScope nIsTurn ["tree", "other"] (defScope sIsTurn) := ⟨rfl, rfl, rfl, by decide +kernel, rfl, by decide +kernel, by decide +kernel⟩
theorem ok_isturn {f fN fR : Addr} {fd fdN fdR : FuncData} (F : Fun K "is_turn" "is_turn" sIsTurn f fd) (GN : FnOk P w K mg base CX0 2 fN fdN ["tree", "numbers"] (spNumber P w)) (bN : Binds K fdN ["tree", "numbers"] []) (mN : mg "_number" = some (.ref fN))
    (kN : PySem.W.keepIn K (.ref fN) = true) (GR : FnOk P w K mg base CX0 1 fR fdR ["parts", "first", "second"] spRight) (bR : Binds K fdR ["parts", "first", "second"] []) (mR : mg "_turns_right" = some (.ref fR))
    (kR : PySem.W.keepIn K (.ref fR) = true) (gIsi : mg "isinstance" = none) (gStr : mg "str" = none) (gList : mg "list" = none) : FnOk P w K mg base CX0 3 f fd ["tree", "other"] spIsTurn := by
  refine F.ok scIsTurn (fun vs H Q E h => ?_) (fun cdv A' outer s H vs Q E hr h => ?_)
  · obtain ⟨v, u, t, o, rfl, _⟩ := h
    rfl
  · obtain ⟨v, u, t, o, rfl, ht, ho, hz1, hz2, k⟩ := h
    have r1 : Room 1 _ := hr.mono (by decide)
    refine ⟨_, pss_cons (ps_set (i := 2) scIsTurn.nd rfl (Or.inl rfl) pe_dnewM)
      (pss_cons (ps_set (i := 3) scIsTurn.nd rfl (Or.inl rfl) (pe_call GN hr (by rfl) mN kN bN .nil pass0 (pa_cons (pv 0) (pa_cons (pv 2) pa_nil))))
      (pss_cons (ps_set (i := 4) scIsTurn.nd rfl (Or.inl rfl) (pe_call GN hr (by rfl) mN kN bN .nil pass0 (pa_cons (pv 1) (pa_cons (pv 2) pa_nil))))
      (pss_cons (ps_set (i := 5) scIsTurn.nd rfl (Or.inl rfl) (pe_callTy (call_listM rfl) (by rfl) gList (by decide +kernel) (pa_cons (pv 2) pa_nil)))
      (pss_cons (ps_while PassesOwn.never (pt_cmpR op_ne (pv 3) (pv 4) (nomark _))
        (pss_cons (ps_par (i := 6) (j := 7) (by rfl) scIsTurn.nd rfl rfl (by decide) rfl rfl (pa_cons (pe_ix ix_list (pv 5) (pv 3) (fun _ _ => rfl)) (pa_cons (pe_ix ix_list (pv 5) (pv 4) (fun _ _ => rfl)) pa_nil)) (by rfl))
        (pss_cons (ps_if (PW.pt (pw_or (pt_val (pe_callB call_isi (by rfl) gIsi (by decide +kernel) (pa_cons (pv 6) (pa_cons (pe_bltn (v := .ty "str") (by rfl) gStr (by decide +kernel) rfl) pa_nil))))
          (pw_or1 (pt_val (pe_callB call_isi (by rfl) gIsi (by decide +kernel) (pa_cons (pv 7) (pa_cons (pe_bltn (v := .ty "str") (by rfl) gStr (by decide +kernel) rfl) pa_nil))))))) (pss_one (ps_ret pe_bl)) pss_nil)
        (pss_one (ps_if (pt_cmpR op_eq (pe_ix ix_tup (pv 6) pe_int (fun _ _ => rfl)) (pe_ix ix_tup (pv 7) pe_int (fun _ _ => rfl)) (nomark _))
          (pss_one (ps_par (i := 3) (j := 4) (by rfl) scIsTurn.nd rfl rfl (by decide) rfl rfl (pa_cons (pe_ix ix_tup (pv 6) pe_int (fun _ _ => rfl)) (pa_cons (pe_ix ix_tup (pv 7) pe_int (fun _ _ => rfl)) pa_nil)) (by rfl)))
          (pss_one (ps_if (pt_cmpR op_eq (pe_ix ix_tup (pv 6) pe_int (fun _ _ => rfl)) (pe_ix ix_tup (pv 7) pe_int (fun _ _ => rfl)) (nomark _))
            (pss_one (ps_par (i := 3) (j := 4) (by rfl) scIsTurn.nd rfl rfl (by decide) rfl rfl (pa_cons (pe_ix ix_tup (pv 6) pe_int (fun _ _ => rfl)) (pa_cons (pe_ix ix_tup (pv 7) pe_int (fun _ _ => rfl)) pa_nil)) (by rfl)))
            (pss_one (ps_ret (pe_or (pe_call GR r1 (by rfl) mR kR bR .nil pass0 (pa_cons (pv 5) (pa_cons (pv 6) (pa_cons (pv 7) pa_nil))))
              (pe_one (pe_call GR r1 (by rfl) mR kR bR .nil pass0 (pa_cons (pv 5) (pa_cons (pv 7) (pa_cons (pv 6) pa_nil)))))))))))))))
      (pss_one (ps_ret pe_bl)))))), ?_⟩
    refine fun d hd => ?_
    have s0 : Same H (upd H d (DM P w d [])) := Same.new hd
    have N0 : Nums P w (upd H d (DM P w d [])) d [] := ⟨upd_same, fun q i j m => (by cases m), List.nodup_nil⟩
    refine ⟨_, rfl, _, rfl, v, t, d, [], rfl, ht.same s0, N0, hz1, Nat.zero_le _, fun i ys H1 N1 D1 l1 b1 => ?_⟩
    rw [List.nil_append] at N1 D1
    have s1 : Same H H1 := Same.thenBut hd s0 b1
    refine ⟨_, rfl, _, rfl, u, o, d, ys, rfl, ho.same s1, N1, hz2, by omega, fun j zs H2 N2 D2 l2 b2 => ?_⟩
    have s2 : Same H H2 := Same.thenBut hd s1 b2
    have D1 : Den ((ys ++ zs).map MK.told) i t := by
      rw [List.map_append]
      exact D1.mono
    generalize ys ++ zs = ks at *
    refine ⟨_, rfl, d, ks, rfl, N2.num, fun pp hpp => ?_⟩
    have s3 : Same H (upd H2 pp (.lst (ks.map MK.v))) := s2.trans (Same.new hpp)
    have hp3 : upd H2 pp (.lst (ks.map MK.v)) pp = some (.lst (ks.map MK.v)) := upd_same
    have pr3 : Pairs (upd H2 pp (.lst (ks.map MK.v))) ks := N2.pr.keep (sameT (Same.new hpp))
    have nd := N2.nd
    clear N0 N1 N2 b1 b2
    generalize upd H2 pp (.lst (ks.map MK.v)) = H3 at *
    refine ⟨fun m σ H4 => H4 = H3 ∧ ∃ (i j : Nat) (X Y : T) (o6 o7 : Option V), σ = [some v, some u, some (.ref d), some (.int i), some (.int j), some (.ref pp), o6, o7] ∧ Den (ks.map MK.told) i X ∧ Den (ks.map MK.told) j Y ∧
        (Y ∈ X.turns ↔ o ∈ t.turns) ∧ X.size = m, ⟨t.size, rfl, i, j, t, o, none, none, rfl, D1, D2, Iff.rfl, rfl⟩, ?_⟩
    rintro m σ H4 ⟨rfl, i, j, X, Y, o6, o7, rfl, dX, dY, iff, sz⟩
    refine ⟨_, rfl, _, rfl, rfl, _, rfl, ?_⟩
    by_cases e : i = j
    · subst e
      refine iteNS rfl ?_
      have := dX.fun dY
      subst this
      exact k false H4 ⟨fun z => (by cases z), fun z => absurd (iff.mpr z) (not_turn X)⟩ s3
    show if (!decide (V.int (i : Int) = V.int (j : Int))) = true then _ else _
    rw [decide_eq_false (ne_int e)]
    refine iteT ?_
    refine ⟨_, fun _ _ z => z, ?_⟩
    obtain ⟨ka, hka, sa⟩ := at_den dX
    obtain ⟨kd, hkd, sd⟩ := at_den dY
    refine ⟨_, rfl, _, rfl, pp, _, _, _, rfl, rfl, SqL.of hp3, atV hka, _, rfl, _, rfl, pp, _, _, _, rfl, rfl, SqL.of hp3, atV hkd, _, _, rfl, ?_⟩
    rcases sa with ⟨x, rfl, rfl⟩ | ⟨q1, a, b, A, B, rfl, rfl, dA, dB⟩
    · refine ⟨_, rfl, .str x, .ty "str", _, _, _, rfl, ClsV.ty "str", .base (.str x), kit_str (.str x), _, rfl, ?_⟩
      refine iteT ?_
      exact k false H4 ⟨fun z => (by cases z), fun z => (by
        have := iff.mpr z
        simp [T.turns] at this)⟩ s3
    have h3 := pr3 _ _ _ (List.mem_of_getElem? hka)
    refine ⟨_, rfl, .ref q1, .ty "str", _, _, _, rfl, ClsV.ty "str", .base (.tup h3), kit_str (.tuple []), _, rfl, ?_⟩
    refine iteF ?_
    rcases sd with ⟨x, rfl, rfl⟩ | ⟨q2, c, d', C, D, rfl, rfl, dC, dD⟩
    · refine ⟨_, rfl, .str x, .ty "str", _, _, _, rfl, ClsV.ty "str", .base (.str x), kit_str (.str x), _, rfl, ?_⟩
      refine iteT ?_
      exact k false H4 ⟨fun z => (by cases z), fun z => (by
        have := turns_sym (iff.mpr z)
        simp [T.turns] at this)⟩ s3
    have h4 := pr3 _ _ _ (List.mem_of_getElem? hkd)
    refine ⟨_, rfl, .ref q2, .ty "str", _, _, _, rfl, ClsV.ty "str", .base (.tup h4), kit_str (.tuple []), _, rfl, ?_⟩
    refine iteF ?_
    simp only [T.size] at sz
    refine ⟨_, rfl, q1, _, _, _, rfl, rfl, SqT.of h3, rfl, _, rfl, q2, _, _, _, rfl, rfl, SqT.of h4, rfl, rfl, _, rfl, ?_⟩
    by_cases eA : a = c
    · subst eA
      rw [decide_eq_true rfl]
      refine iteT ?_
      have := dA.fun dC
      subst this
      refine ⟨_, rfl, q1, _, _, _, rfl, rfl, SqT.of h3, rfl, _, rfl, q2, _, _, _, rfl, rfl, SqT.of h4, rfl, _, _, rfl, ?_⟩
      exact ⟨B.size, by omega, rfl, b, d', B, D, _, _, rfl, dB, dD, turn_same_l.symm.trans iff, rfl⟩
    rw [decide_eq_false (ne_int eA)]
    refine iteF ?_
    refine ⟨_, rfl, q1, _, _, _, rfl, rfl, SqT.of h3, rfl, _, rfl, q2, _, _, _, rfl, rfl, SqT.of h4, rfl, rfl, _, rfl, ?_⟩
    by_cases eB : b = d'
    · subst eB
      rw [decide_eq_true rfl]
      refine iteT ?_
      have := dB.fun dD
      subst this
      refine ⟨_, rfl, q1, _, _, _, rfl, rfl, SqT.of h3, rfl, _, rfl, q2, _, _, _, rfl, rfl, SqT.of h4, rfl, _, _, rfl, ?_⟩
      exact ⟨A.size, by omega, rfl, a, c, A, C, _, _, rfl, dA, dC, turn_same_r.symm.trans iff, rfl⟩
    rw [decide_eq_false (ne_int eB)]
    refine iteF ?_
    have nA : A ≠ C := fun z => eA (dA.inj nd (z ▸ dC))
    have nB : B ≠ D := fun z => eB (dB.inj nd (z ▸ dD))
    have te := turn_else nA nB
    refine ⟨_, rfl, _, rfl, _, rfl, pp, q1, q2, ks, a, b, c, d', A, B, C, D, rfl, hp3, pr3, nd, h3, h4, dA, dB, dC, dD, fun r1 H5 r1' s5 => ⟨r1, rfl, ?_⟩⟩
    cases r1 with
    | true =>
      refine k true H5 ⟨fun _ => iff.mp (te.mpr (.inl (r1'.mp rfl))), fun _ => rfl⟩ (s3.trans s5)
    | false =>
      have no : ¬ Rot A B C D := fun z => by
        cases r1'.mpr z
      refine ⟨_, rfl, _, rfl, _, rfl, pp, q2, q1, ks, c, d', a, b, C, D, A, B, rfl, s5 _ _ hp3, pr3.keep (sameT s5), nd, s5 _ _ h4, s5 _ _ h3, dC, dD, dA, dB, fun r2 H6 r2' s6 => ?_⟩
      refine k r2 H6 ⟨fun z => iff.mp (te.mpr (.inr ?_)), fun z => r2'.mpr ?_⟩ (s3.trans (s5.trans s6))
      · obtain ⟨p, q, e1, e2, e3⟩ := r2'.mp z
        subst e2
        exact ⟨q, D, e3, e1, rfl⟩
      · rcases te.mp (iff.mpr z) with z | ⟨p, q, e1, e2, e3⟩
        · exact absurd z no
        · subst e3
          exact ⟨A, p, e2, rfl, e1⟩
end
end K88
namespace K88
open PySem PySem.Spec PyProof.Rows L2 Vr VM
abbrev sTrees : Stmt := top 12
abbrev sTurns : Stmt := top 13
abbrev sRen : Stmt := top 15
abbrev sBoth : Stmt := top 16
/-! ### all bracketings of a row -/
def treesF : Nat → List Str → List T
  | 0, _ => []
  | n + 1, row => match row with
    | [x] => [.leaf x]
    | _ => (List.range (row.length - 1)).flatMap fun i => (treesF n (row.take (i + 1))).flatMap fun l => (treesF n (row.drop (i + 1))).map fun r => .node l r
def cnt : Nat → Nat → Nat
  | 0, _ => 0
  | n + 1, k => if k = 1 then 1 else ((List.range (k - 1)).map fun i => cnt n (i + 1) * cnt n (k - (i + 1))).sum
theorem treesF_one (n : Nat) (x : Str) : treesF (n + 1) [x] = [.leaf x] := rfl
theorem treesF_more (n : Nat) (row : List Str) (h : row.length ≠ 1) : treesF (n + 1) row = (List.range (row.length - 1)).flatMap fun i => (treesF n (row.take (i + 1))).flatMap fun l => (treesF n (row.drop (i + 1))).map fun r => .node l r := by
  match row, h with
  | [], _ => rfl
  | [x], h => exact absurd rfl h
  | _ :: _ :: _, _ => rfl
theorem treesF_cnt : ∀ (n : Nat) (row : List Str), (treesF n row).length = cnt n row.length
  | 0, _ => rfl
  | n + 1, row => by
    by_cases h : row.length = 1
    · obtain ⟨x, rfl⟩ := List.length_eq_one_iff.mp h
      rfl
    · rw [treesF_more n row h, cnt, if_neg h, List.length_flatMap]
      congr 1
      apply List.map_congr_left
      intro i hi
      have hi := List.mem_range.mp hi
      rw [List.length_flatMap]
      have e1 := treesF_cnt n (row.take (i + 1))
      have e2 := treesF_cnt n (row.drop (i + 1))
      rw [List.length_take, Nat.min_eq_left (by omega)] at e1
      rw [List.length_drop] at e2
      rw [← e1, ← e2]
      generalize treesF n (row.take (i + 1)) = ls
      generalize treesF n (row.drop (i + 1)) = rs
      induction ls with
      | nil => simp
      | cons a b ih =>
        rw [List.map_cons, List.sum_cons, ih, List.length_map, List.length_cons]
        rw [Nat.succ_mul, Nat.add_comm]
theorem treesF_row : ∀ (n : Nat) (row : List Str) {t : T}, t ∈ treesF n row → t.row = row
  | 0, _, t, h => by simp [treesF] at h
  | n + 1, row, t, h => by
    by_cases e : row.length = 1
    · obtain ⟨x, rfl⟩ := List.length_eq_one_iff.mp e
      rw [treesF_one] at h
      rw [List.mem_singleton.mp h]
      rfl
    · rw [treesF_more n row e] at h
      obtain ⟨i, hi, h⟩ := List.mem_flatMap.mp h
      obtain ⟨l, hl, h⟩ := List.mem_flatMap.mp h
      obtain ⟨r, hr, rfl⟩ := List.mem_map.mp h
      simp only [T.row]
      rw [treesF_row n _ hl, treesF_row n _ hr, List.take_append_drop]
theorem treesF_all : ∀ (n : Nat) (t : T), t.row.length ≤ n → t ∈ treesF n t.row
  | 0, t, h => by
    have := t.row_ne
    omega
  | n + 1, .leaf x, _ => by
    simp [T.row, treesF]
  | n + 1, .node l r, h => by
    have hl := l.row_ne
    have hr := r.row_ne
    simp only [T.row, List.length_append] at h
    rw [treesF_more n _ (by simp only [T.row, List.length_append]; omega)]
    refine List.mem_flatMap.mpr ⟨l.row.length - 1, List.mem_range.mpr (by simp only [T.row, List.length_append]; omega), ?_⟩
    have e1 : (T.node l r).row.take (l.row.length - 1 + 1) = l.row := by
      rw [show l.row.length - 1 + 1 = l.row.length by omega]
      simp [T.row]
    have e2 : (T.node l r).row.drop (l.row.length - 1 + 1) = r.row := by
      rw [show l.row.length - 1 + 1 = l.row.length by omega]
      simp [T.row]
    rw [e1, e2]
    exact List.mem_flatMap.mpr ⟨l, treesF_all n l (by omega), List.mem_map.mpr ⟨r, treesF_all n r (by omega), rfl⟩⟩
theorem nodup_flatMap {α β : Type} {f : α → List β} : ∀ {l : List α}, l.Nodup → (∀ a ∈ l, (f a).Nodup) → (∀ a ∈ l, ∀ b ∈ l, a ≠ b → ∀ x ∈ f a, x ∉ f b) → (l.flatMap f).Nodup
  | [], _, _, _ => List.nodup_nil
  | a :: l, h, h1, h2 => by
    obtain ⟨g1, g2⟩ := List.nodup_cons.mp h
    rw [List.flatMap_cons]
    refine List.nodup_append.mpr ⟨h1 a List.mem_cons_self, nodup_flatMap g2 (fun b hb => h1 b (List.mem_cons_of_mem _ hb)) (fun b hb c hc => h2 b (List.mem_cons_of_mem _ hb) c (List.mem_cons_of_mem _ hc)), ?_⟩
    rintro x hx y hy rfl
    obtain ⟨b, hb, hy⟩ := List.mem_flatMap.mp hy
    exact h2 a List.mem_cons_self b (List.mem_cons_of_mem _ hb) (fun e => g1 (e ▸ hb)) x hx hy
theorem treesF_nodup : ∀ (n : Nat) (row : List Str), (treesF n row).Nodup
  | 0, _ => List.nodup_nil
  | n + 1, row => by
    by_cases e : row.length = 1
    · obtain ⟨x, rfl⟩ := List.length_eq_one_iff.mp e
      rw [treesF_one]
      simp
    · rw [treesF_more n row e]
      refine nodup_flatMap List.nodup_range (fun i _ => nodup_flatMap (treesF_nodup n _) (fun l _ => nodup_map (fun a b e => by injection e) (treesF_nodup n _)) ?_) ?_
      · intro a _ b _ ne x hx hy
        obtain ⟨r, _, rfl⟩ := List.mem_map.mp hx
        obtain ⟨r', _, e⟩ := List.mem_map.mp hy
        injection e with e1 _
        exact ne e1.symm
      · intro i hi j hj ne x hx hy
        have hi := List.mem_range.mp hi
        have hj := List.mem_range.mp hj
        obtain ⟨l, hl, hx⟩ := List.mem_flatMap.mp hx
        obtain ⟨r, hr, rfl⟩ := List.mem_map.mp hx
        obtain ⟨l', hl', hy⟩ := List.mem_flatMap.mp hy
        obtain ⟨r', hr', e⟩ := List.mem_map.mp hy
        injection e with e1 _
        subst e1
        have a := congrArg List.length (treesF_row n _ hl)
        have b := congrArg List.length (treesF_row n _ hl')
        rw [List.length_take] at a b
        omega
/-- as many bracketings of a row are one turn away as there are turns -/
theorem turns_count (n : Nat) (t : T) (h : t.row.length ≤ n) (p : T → Bool) (hp : ∀ x, p x = true ↔ x ∈ t.turns) : ((treesF n t.row).filter p).length = t.turns.length := by
  have e : ((treesF n t.row).filter p).Perm t.turns := by
    refine (List.perm_ext_iff_of_nodup (List.Nodup.sublist List.filter_sublist (treesF_nodup n _)) (turns_nodup t)).mpr fun x => ?_
    rw [List.mem_filter, hp]
    constructor
    · exact fun z => z.2
    · intro z
      have r := turns_row z
      exact ⟨r ▸ treesF_all n x (by rw [r]; exact h), z⟩
  exact e.length_eq
/-! ### a leaf replaced -/
def T.ren (z : Str) : T → Int → T
  | .leaf x, p => .leaf (if p = 0 then z else x)
  | .node l r, p => .node (l.ren z p) (r.ren z (p - l.row.length))
theorem ren_size (z : Str) : ∀ (t : T) (p : Int), (t.ren z p).size = t.size
  | .leaf _, _ => rfl
  | .node l r, p => by simp only [T.ren, T.size, ren_size z l, ren_size z r]
theorem ren_mem (z : Str) : ∀ (t : T) (p : Int), 0 ≤ p → p < t.row.length → z ∈ (t.ren z p).row
  | .leaf x, p, h0, h1 => by
    have : p = 0 := by
      simp only [T.row, List.length_singleton] at h1
      omega
    subst this
    simp [T.ren, T.row]
  | .node l r, p, h0, h1 => by
    simp only [T.row, List.length_append] at h1
    simp only [T.ren, T.row, List.mem_append]
    by_cases c : p < l.row.length
    · exact .inl (ren_mem z l p h0 c)
    · exact .inr (ren_mem z r _ (by omega) (by omega))
/-- not a turn: a sign that the tree has not -/
theorem not_turn_of {z : Str} {t x : T} (h : z ∈ x.row) (g : z ∉ t.row) : x ∉ t.turns := fun m => g (turns_row m ▸ h)
/-- turns in both parts are none -/
theorem both_not {a b c d : T} (h1 : c ∈ a.turns) (h2 : d ∈ b.turns) : T.node c d ∉ (T.node a b).turns := fun m => by
  have n1 : a ≠ c := fun e => not_turn a (by rw [← e] at h1; exact h1)
  have n2 : b ≠ d := fun e => not_turn b (by rw [← e] at h2; exact h2)
  rcases (turn_else n1 n2).mp m with ⟨p, q, rfl, rfl, e⟩ | ⟨p, q, rfl, e, rfl⟩
  · have := turns_size h1
    have := q.size_pos
    simp only [T.size] at *
    omega
  · have := turns_size h2
    have := p.size_pos
    simp only [T.size] at *
    omega
def spTurns (n : Nat) : Sp := fun vs H Q _ => ∃ (v : V) (t : T), vs = [v] ∧ TreeAt H v t ∧ t.depth < n ∧ t.size ≤ 10000 ∧ ∀ (p : Addr) (us : List V) (H' : Hp), H p = none → H' p = some (.lst us) → TreeAll H' us t.turns → Same H H' → Q (.ref p) H'
def spRen (n : Nat) : Sp := fun vs H Q _ => ∃ (v : V) (t : T) (k : Int) (z : Str), vs = [v, .int k, .str z] ∧ TreeAt H v t ∧ t.depth < n ∧ ∀ (p : Addr) (u : V) (H' : Hp), H' p = some (.tup [u, .int (t.row.length : Int)]) → TreeAt H' u (t.ren z k) → Same H H' → Q (.ref p) H'
def spBoth : Sp := fun vs H Q _ => ∃ (v u : V) (t o : T), vs = [v, u] ∧ TreeAt H v t ∧ TreeAt H u o ∧ t.size ≤ 10000 ∧ o.size ≤ 10000 ∧ ∀ (p : Addr) (r : Bool) (H' : Hp), H p = none → H' p = some (.lst [.bl r, .bl r]) → (r = true ↔ o ∈ t.turns) → Same H H' → Q (.ref p) H'
def spTrees (n : Nat) : Sp := fun vs H Q _ => ∃ (a : Addr) (row : List Str), vs = [.ref a] ∧ H a = some (.tup (row.map V.str)) ∧ 1 ≤ row.length ∧ row.length ≤ n ∧ n ≤ 5 ∧
  ∀ (p : Addr) (us : List V) (H' : Hp), H p = none → H' p = some (.lst us) → TreeAll H' us (treesF n row) → Same H H' → Q (.ref p) H'
section
variable {P : Program} {w : World} {K : PySem.W.Frag} {mg : Str → Option Value} {base : Heap}
abbrev nTurns : List Str := ["_law_tree_here", "_law_left", "_law_right", "_law_found", "_law_one"]
theorem scTurns : FnScope nTurns ["_law_tree_here"] (defScope sTurns) := ⟨rfl, rfl, rfl, by decide +kernel, rfl, by decide +kernel, by decide +kernel⟩
theorem ok_turns {f : Addr} {fd : FuncData} (F : Fun K "_law_turns" "_law_turns" sTurns f fd) (b0 : Binds K fd ["_law_tree_here"] []) (m0 : mg "_law_turns" = some (.ref f)) (gIsi : mg "isinstance" = none) (gTuple : mg "tuple" = none) :
    ∀ n : Nat, FnOk P w K mg base CX0 (n + 1) f fd ["_law_tree_here"] (spTurns n)
  | 0 => ⟨fun vs H Q E h => (by obtain ⟨v, t, rfl, _⟩ := h; rfl), fun A outer s H args us vs Q E _ _ _ _ h => (by obtain ⟨v, t, _, _, h1, _⟩ := h; omega)⟩
  | n + 1 => by
    have GR := ok_turns F b0 m0 gIsi gTuple n
    refine F.ok scTurns (fun vs H Q E h => ?_) (fun cdv A outer s H vs Q E hr h => ?_)
    · obtain ⟨v, t, rfl, _⟩ := h
      rfl
    · obtain ⟨v, t, rfl, ht, hd, hz, k⟩ := h
      refine ⟨_, pss_cons (ps_if (pt_not (pt_val (pe_callB call_isi (by rfl) gIsi (by decide +kernel) (pa_cons (pv 0) (pa_cons (pe_bltn (v := .ty "tuple") (by rfl) gTuple (by decide +kernel) rfl) pa_nil))))) (pss_one (ps_ret (pe_lst pa_nil))) pss_nil)
        (pss_cons (ps_asg (pv 0) (pg_tup rfl (pgs_cons (pg_name (i := 1) scTurns.nd rfl (Or.inr rfl)) (pgs_cons (pg_name (i := 2) scTurns.nd rfl (Or.inr rfl)) pgs_nil))))
        (pss_cons (ps_set (i := 3) scTurns.nd rfl (Or.inl rfl) (pe_op op_cat
          (pe_lc (own := [("_law_one", 4)]) (g := gName 4) (tt := tYes) rfl scTurns.nd (pi_list (pe_call GR hr (by rfl) m0 F.kp b0 .nil pass0 (pa_cons (pv 1) pa_nil)))
            (blkOk_by (N := nTurns) (sc := defScope sTurns) (by decide +kernel)) (fun _ _ _ _ _ => pg_name (i := 4) scTurns.nd rfl (Or.inl rfl)) (fun _ _ _ _ _ => pts_nil)
            (fun _ _ _ _ _ => pe_tup (pa_cons (pv 4) (pa_cons (pv 2) pa_nil))))
          (pe_lc (own := [("_law_one", 4)]) (g := gName 4) (tt := tYes) rfl scTurns.nd (pi_list (pe_call GR hr (by rfl) m0 F.kp b0 .nil pass0 (pa_cons (pv 2) pa_nil)))
            (blkOk_by (N := nTurns) (sc := defScope sTurns) (by decide +kernel)) (fun _ _ _ _ _ => pg_name (i := 4) scTurns.nd rfl (Or.inl rfl)) (fun _ _ _ _ _ => pts_nil)
            (fun _ _ _ _ _ => pe_tup (pa_cons (pv 1) (pa_cons (pv 4) pa_nil))))))
        (C8.pss_cut (ps_if (pt_val (pe_callB call_isi (by rfl) gIsi (by decide +kernel) (pa_cons (pv 1) (pa_cons (pe_bltn (v := .ty "tuple") (by rfl) gTuple (by decide +kernel) rfl) pa_nil))))
          (pss_one (ps_expr (pe_bm PySem.F.plainAttrs_list PySem.F.slot_list_append PySem.F.type_list_append mt_append (pv 3) (pa_cons (pe_tup (pa_cons (pe_ix ix_tup (pv 1) pe_int (fun _ _ => rfl)) (pa_cons (pe_tup (pa_cons (pe_ix ix_tup (pv 1) pe_int (fun _ _ => rfl)) (pa_cons (pv 2) pa_nil))) pa_nil))) pa_nil)))) pss_nil)
        (C8.pss_cut (ps_if (pt_val (pe_callB call_isi (by rfl) gIsi (by decide +kernel) (pa_cons (pv 2) (pa_cons (pe_bltn (v := .ty "tuple") (by rfl) gTuple (by decide +kernel) rfl) pa_nil))))
          (pss_one (ps_expr (pe_bm PySem.F.plainAttrs_list PySem.F.slot_list_append PySem.F.type_list_append mt_append (pv 3) (pa_cons (pe_tup (pa_cons (pe_tup (pa_cons (pv 1) (pa_cons (pe_ix ix_tup (pv 2) pe_int (fun _ _ => rfl)) pa_nil))) (pa_cons (pe_ix ix_tup (pv 2) pe_int (fun _ _ => rfl)) pa_nil))) pa_nil)))) pss_nil)
        (pss_one (ps_ret (pv 3))))))), ?_⟩
      cases t with
      | leaf x =>
        cases (show v = V.str x from ht)
        refine ⟨_, rfl, .str x, .ty "tuple", _, _, _, rfl, ClsV.ty "tuple", .base (.str x), kit_tuple (.str x), _, rfl, ?_⟩
        refine iteT ?_
        exact ⟨(by show 0 ≤ sizeLine; decide), fun p hp => k p [] _ hp upd_same trivial (Same.new hp)⟩
      | node l r =>
        obtain ⟨p0, va, vc, rfl, hp0, h1, h2⟩ := ht
        simp only [T.depth] at hd
        have lz : (T.node l r).size = 1 + l.size + r.size := rfl
        have tl1 := turns_len l
        have tl2 := turns_len r
        refine ⟨_, rfl, .ref p0, .ty "tuple", _, _, _, rfl, ClsV.ty "tuple", .base (.tup hp0), kit_tuple (.tuple []), _, rfl, ?_⟩
        refine iteF ?_
        refine ⟨_, rfl, p0, _, rfl, SqT.of hp0, rfl, _, _, rfl, _, _, rfl, rfl, ?_⟩
        -- the left turns
        refine ⟨_, rfl, va, l, rfl, h1, by omega, by omega, fun pl ul H1 nl hl al s1 => ⟨_, rfl, ⟨_, SqL.of hl⟩, fun D hD => ?_⟩⟩
        have ll := al.length
        refine lc_list (xs := ul) (fun i H4 => ∃ acc : List V, acc.length = i ∧ H4 D = some (.lst acc) ∧ TreeAll H4 acc ((l.turns.take i).map fun x => .node x r) ∧ Same H1 H4)
          ⟨[], rfl, upd_same, trivial, Same.new hD⟩ (fun i H4 _ ⟨acc, _, _, _, e4⟩ => SqL.of (e4 _ _ hl)) ?_ ?_
        · rintro i x H4 hx ⟨acc, e1, e2, e3, e4⟩
          obtain ⟨tc, htc, tx⟩ := al.get hx
          have li := (List.getElem?_eq_some_iff.mp hx).1
          refine ⟨rfl, _, rfl, _, rfl, (by show 2 ≤ sizeLine; decide), fun q hq => ?_⟩
          have sq := Same.new (o := .tup [x, vc]) hq
          have e2' := sq _ _ e2
          refine ⟨acc, e2', by rw [sizeLine_eq]; omega, acc ++ [.ref q], by simp [e1], upd_same, ?_, Same.newer hD (e4.trans sq)⟩
          rw [List.take_add_one, htc, List.map_append]
          exact (TreeAll.save2 (keepT e2') (TreeAll.same sq e3)).append ⟨TreeAt.keep (keepT e2') (t := .node tc r) ⟨q, x, vc, rfl, upd_same, (tx.same e4).new hq, (h2.same (s1.trans e4)).new hq⟩, trivial⟩
        rintro H4 ⟨acc, e1, e2, e3, e4⟩
        rw [List.take_of_length_le (by omega)] at e3
        have s14 := s1.trans e4
        -- the right turns
        refine ⟨_, rfl, vc, r, rfl, h2.same s14, by omega, by omega, fun pr ur H5 nr hr' ar s5 => ⟨_, rfl, ⟨_, SqL.of hr'⟩, fun D2 hD2 => ?_⟩⟩
        have lr := ar.length
        refine lc_list (xs := ur) (fun i H6 => ∃ acc : List V, acc.length = i ∧ H6 D2 = some (.lst acc) ∧ TreeAll H6 acc ((r.turns.take i).map fun x => .node l x) ∧ Same H5 H6)
          ⟨[], rfl, upd_same, trivial, Same.new hD2⟩ (fun i H6 _ ⟨acc, _, _, _, e4⟩ => SqL.of (e4 _ _ hr')) ?_ ?_
        · rintro i x H6 hx ⟨ac, g1, g2, g3, g4⟩
          obtain ⟨tc, htc, tx⟩ := ar.get hx
          have li := (List.getElem?_eq_some_iff.mp hx).1
          refine ⟨rfl, _, rfl, _, rfl, (by show 2 ≤ sizeLine; decide), fun q hq => ?_⟩
          have sq := Same.new (o := .tup [va, x]) hq
          have e2' := sq _ _ g2
          refine ⟨ac, e2', by rw [sizeLine_eq]; omega, ac ++ [.ref q], by simp [g1], upd_same, ?_, Same.newer hD2 (g4.trans sq)⟩
          rw [List.take_add_one, htc, List.map_append]
          exact (TreeAll.save2 (keepT e2') (TreeAll.same sq g3)).append ⟨TreeAt.keep (keepT e2') (t := .node l tc) ⟨q, va, x, rfl, upd_same, (h1.same (s14.trans (s5.trans g4))).new hq, (tx.same g4).new hq⟩, trivial⟩
        rintro H6 ⟨ac, g1, g2, g3, g4⟩
        rw [List.take_of_length_le (by omega)] at g3
        have s56 := s5.trans g4
        refine ⟨D, D2, acc, ac, rfl, rfl, s56 _ _ e2, g2, by rw [sizeLine_eq]; omega, fun fl hf => ?_⟩
        have s16 := s14.trans s56
        have hfH : H fl = none := s16.free hf
        have a7 : TreeAll (upd H6 fl (.lst (acc ++ ac))) (acc ++ ac) ((l.turns.map fun x => T.node x r) ++ (r.turns.map fun x => T.node l x)) := TreeAll.same (Same.new hf) ((TreeAll.same s56 e3).append g3)
        have s7 : Same H (upd H6 fl (.lst (acc ++ ac))) := s16.trans (Same.new hf)
        have hl7 : TreeAt (upd H6 fl (.lst (acc ++ ac))) va l := h1.same s7
        have hr7 : TreeAt (upd H6 fl (.lst (acc ++ ac))) vc r := h2.same s7
        have f7 : upd H6 fl (.lst (acc ++ ac)) fl = some (.lst (acc ++ ac)) := upd_same
        have ln7 : (acc ++ ac).length ≤ 20000 := by
          rw [List.length_append]
          omega
        generalize upd H6 fl (.lst (acc ++ ac)) = H7 at *
        generalize acc ++ ac = us0 at *
        clear e1 e2 e3 e4 g1 g2 g3 g4 hD hD2 hl hr' al ar
        have small : ∀ n, n ≤ 30000 → n < sizeLine := fun n h => by
          rw [sizeLine_eq]
          omega
        -- the left part
        refine ⟨fun σ H1 => (∃ o4, σ = [some (.ref p0), some va, some vc, some (.ref fl), o4]) ∧ ∃ us : List V, H1 fl = some (.lst us) ∧ us.length ≤ 20001 ∧ TreeAll H1 us ((l.turns.map fun x => T.node x r) ++ (r.turns.map fun x => T.node l x) ++ rotL l r) ∧ Same H H1, ?_, ?_⟩
        · cases l with
          | leaf x =>
            cases (show va = V.str x from hl7)
            refine ⟨_, rfl, .str x, .ty "tuple", _, _, _, rfl, ClsV.ty "tuple", .base (.str x), kit_tuple (.str x), _, rfl, ?_⟩
            refine iteF ?_
            exact ⟨⟨_, rfl⟩, us0, f7, by omega, by rw [show rotL (.leaf x) r = [] from rfl, List.append_nil]; exact a7, s7⟩
          | node la lb =>
            obtain ⟨p, a, c, rfl, hp, t1, t2⟩ := hl7
            refine ⟨_, rfl, .ref p, .ty "tuple", _, _, _, rfl, ClsV.ty "tuple", .base (.tup hp), kit_tuple (.tuple []), _, rfl, ?_⟩
            refine iteT ?_
            refine ⟨_, rfl, Or.inl ⟨rfl, _, SqL.of f7⟩, _, rfl, p, _, _, _, rfl, rfl, SqT.of hp, rfl, ?_⟩
            refine ⟨_, rfl, p, _, _, _, rfl, rfl, SqT.of hp, rfl, _, rfl, (by show 2 ≤ sizeLine; decide), fun q hq => ⟨(by show 2 ≤ sizeLine; decide), fun q2 hq2 => ?_⟩⟩
            obtain ⟨f3, g1, g2, g3⟩ := made (ys := us0 ++ [V.ref q2]) (B := [a, V.ref q]) f7 hq hq2
            refine ⟨fl, _, _, rfl, rfl, f3, small _ (by omega), ⟨_, rfl⟩, _, upd_same, by rw [List.length_append, List.length_singleton]; omega, (TreeAll.save f7 g3 a7).append ⟨⟨q2, a, .ref q, rfl, g2, ?_, q, c, vc, rfl, g1, ?_, ?_⟩, trivial⟩, sameSave hfH s7 g3⟩
            · exact t1.save f7 g3
            · exact t2.save f7 g3
            · exact hr7.save f7 g3
        rintro σ H1 ⟨⟨o4, rfl⟩, us, hu, ln, au, s1⟩
        have hl := h1.same s1
        have hr' := h2.same s1
        -- the right part
        refine ⟨fun σ H2 => (∃ o4, σ = [some (.ref p0), some va, some vc, some (.ref fl), o4]) ∧ ∃ us : List V, H2 fl = some (.lst us) ∧ TreeAll H2 us (T.node l r).turns ∧ Same H H2, ?_, ?_⟩
        · have et : (T.node l r).turns = (l.turns.map fun x => T.node x r) ++ (r.turns.map fun x => T.node l x) ++ rotL l r ++ rotR l r := by
            simp only [T.turns, List.append_assoc]
          rw [et]
          cases r with
          | leaf x =>
            cases (show vc = V.str x from hr')
            refine ⟨_, rfl, .str x, .ty "tuple", _, _, _, rfl, ClsV.ty "tuple", .base (.str x), kit_tuple (.str x), _, rfl, ?_⟩
            refine iteF ?_
            exact ⟨⟨_, rfl⟩, us, hu, by rw [show rotR l (.leaf x) = [] from rfl, List.append_nil]; exact au, s1⟩
          | node ra rb =>
            obtain ⟨p, a, c, rfl, hp, t1, t2⟩ := hr'
            refine ⟨_, rfl, .ref p, .ty "tuple", _, _, _, rfl, ClsV.ty "tuple", .base (.tup hp), kit_tuple (.tuple []), _, rfl, ?_⟩
            refine iteT ?_
            refine ⟨_, rfl, Or.inl ⟨rfl, _, SqL.of hu⟩, _, rfl, _, rfl, p, _, _, _, rfl, rfl, SqT.of hp, rfl, (by show 2 ≤ sizeLine; decide), fun q hq => ?_⟩
            have hp1 := Same.new (o := .tup [va, a]) hq _ _ hp
            refine ⟨_, rfl, p, _, _, _, rfl, rfl, SqT.of hp1, rfl, (by show 2 ≤ sizeLine; decide), fun q2 hq2 => ?_⟩
            obtain ⟨f3, g1, g2, g3⟩ := made (ys := us ++ [V.ref q2]) (B := [V.ref q, c]) hu hq hq2
            refine ⟨fl, _, _, rfl, rfl, f3, small _ (by omega), ⟨_, rfl⟩, _, upd_same, ?_, sameSave hfH s1 g3⟩
            refine TreeAll.append (TreeAll.save hu g3 au) ⟨⟨q2, .ref q, c, rfl, g2, ⟨q, va, a, rfl, g1, hl.save hu g3, t1.save hu g3⟩, t2.save hu g3⟩, trivial⟩
        · rintro σ H2 ⟨⟨o4, rfl⟩, us, hu, au, s1⟩
          exact ⟨_, rfl, k fl us _ hfH hu au s1⟩
theorem scRen : FnScope ["_law_tree_here", "_law_place", "_law_name", "_law_left", "_law_many", "_law_right", "_law_more"] ["_law_tree_here", "_law_place", "_law_name"] (defScope sRen) := ⟨rfl, rfl, rfl, by decide +kernel, rfl, by decide +kernel, by decide +kernel⟩
theorem ok_ren {f : Addr} {fd : FuncData} (F : Fun K "_law_renamed" "_law_renamed" sRen f fd) (b0 : Binds K fd ["_law_tree_here", "_law_place", "_law_name"] []) (m0 : mg "_law_renamed" = some (.ref f)) (gIsi : mg "isinstance" = none) (gTuple : mg "tuple" = none) :
    ∀ n : Nat, FnOk P w K mg base CX0 (n + 1) f fd ["_law_tree_here", "_law_place", "_law_name"] (spRen n)
  | 0 => ⟨fun vs H Q E h => (by obtain ⟨v, t, k, z, rfl, _⟩ := h; rfl), fun A outer s H args us vs Q E _ _ _ _ h => (by obtain ⟨v, t, k, z, _, _, h1, _⟩ := h; omega)⟩
  | n + 1 => by
    have GR := ok_ren F b0 m0 gIsi gTuple n
    refine F.ok scRen (fun vs H Q E h => ?_) (fun cdv A outer s H vs Q E hr h => ?_)
    · obtain ⟨v, t, k, z, rfl, _⟩ := h
      rfl
    · obtain ⟨v, t, k, z, rfl, ht, hd, q⟩ := h
      refine ⟨_, pss_cons (ps_if (pt_not (pt_val (pe_callB call_isi (by rfl) gIsi (by decide +kernel) (pa_cons (pv 0) (pa_cons (pe_bltn (v := .ty "tuple") (by rfl) gTuple (by decide +kernel) rfl) pa_nil)))))
          (pss_one (ps_ret (pe_tup (pa_cons (pe_ifExp (pt_cmpR op_eq (pv 1) pe_int (nomark _)) (pv 2) (pv 0)) (pa_cons pe_int pa_nil))))) pss_nil)
        (pss_cons (ps_asg (pe_call GR hr rfl m0 F.kp b0 .nil pass0 (pa_cons (pe_ix ix_tup (pv 0) pe_int (fun _ _ => rfl)) (pa_cons (pv 1) (pa_cons (pv 2) pa_nil)))) (pg_tup rfl (pgs_cons (pg_name (i := 3) scRen.nd rfl (Or.inl rfl)) (pgs_cons (pg_name (i := 4) scRen.nd rfl (Or.inl rfl)) pgs_nil))))
        (pss_cons (ps_asg (pe_call GR hr rfl m0 F.kp b0 .nil pass0 (pa_cons (pe_ix ix_tup (pv 0) pe_int (fun _ _ => rfl)) (pa_cons (pe_op op_sub (pv 1) (pv 4)) (pa_cons (pv 2) pa_nil)))) (pg_tup rfl (pgs_cons (pg_name (i := 5) scRen.nd rfl (Or.inl rfl)) (pgs_cons (pg_name (i := 6) scRen.nd rfl (Or.inl rfl)) pgs_nil))))
        (pss_one (ps_ret (pe_tup (pa_cons (pe_tup (pa_cons (pv 3) (pa_cons (pv 5) pa_nil))) (pa_cons (pe_op op_add (pv 4) (pv 6)) pa_nil))))))), ?_⟩
      cases t with
      | leaf x =>
        cases (show v = V.str x from ht)
        refine ⟨_, rfl, .str x, .ty "tuple", _, _, _, rfl, ClsV.ty "tuple", .base (.str x), kit_tuple (.str x), _, rfl, ?_⟩
        refine iteT ?_
        refine ⟨_, rfl, rfl, _, rfl, ?_⟩
        by_cases c : k = 0
        · subst c
          rw [decide_eq_true rfl]
          refine iteT ?_
          refine ⟨_, rfl, (by show 2 ≤ sizeLine; decide), fun p hp => q p _ _ upd_same ?_ (Same.new hp)⟩
          show V.str z = V.str (if (0 : Int) = 0 then z else x)
          rfl
        · rw [decide_eq_false (fun e => c (by injection e))]
          refine iteF ?_
          refine ⟨_, rfl, (by show 2 ≤ sizeLine; decide), fun p hp => q p _ _ upd_same ?_ (Same.new hp)⟩
          show V.str x = V.str (if k = 0 then z else x)
          rw [if_neg c]
      | node l r =>
        obtain ⟨p0, va, vc, rfl, hp0, h1, h2⟩ := ht
        simp only [T.depth] at hd
        refine ⟨_, rfl, .ref p0, .ty "tuple", _, _, _, rfl, ClsV.ty "tuple", .base (.tup hp0), kit_tuple (.tuple []), _, rfl, ?_⟩
        refine iteF ?_
        refine ⟨_, rfl, p0, _, _, _, rfl, rfl, SqT.of hp0, rfl, _, rfl, _, rfl, va, l, k, z, rfl, h1, by omega, fun p1 u1 H1 e1 t1 s1 => ?_⟩
        refine ⟨p1, _, rfl, SqT.of e1, rfl, _, _, rfl, _, _, rfl, rfl, ?_⟩
        refine ⟨_, rfl, p0, _, _, _, rfl, rfl, SqT.of (s1 _ _ hp0), rfl, _, rfl, _, rfl, _, _, rfl, rfl, _, rfl, vc, r, k - l.row.length, z, rfl, h2.same s1, by omega, fun p2 u2 H2 e2 t2 s2 => ?_⟩
        refine ⟨p2, _, rfl, SqT.of e2, rfl, _, _, rfl, _, _, rfl, rfl, ?_⟩
        refine ⟨_, rfl, _, rfl, (by show 2 ≤ sizeLine; decide), fun p3 n3 => ⟨_, rfl, _, rfl, _, _, rfl, rfl, (by show 2 ≤ sizeLine; decide), fun p4 n4 => ?_⟩⟩
        have s3 := Same.new (o := .tup [u1, u2]) n3
        have s4 := Same.new (o := .tup [V.ref p3, V.int ((l.row.length : Int) + (r.row.length : Int))]) n4
        refine q p4 (.ref p3) _ ?_ ⟨p3, u1, u2, rfl, s4 _ _ upd_same, t1.same (s2.trans (s3.trans s4)), t2.same (s3.trans s4)⟩ (s1.trans (s2.trans (s3.trans s4)))
        simp only [T.row, List.length_append, Int.natCast_add]
        exact upd_same
theorem scBoth : FnScope ["_law_tree_here", "_law_other"] ["_law_tree_here", "_law_other"] (defScope sBoth) := ⟨rfl, rfl, rfl, by decide +kernel, rfl, by decide +kernel, by decide +kernel⟩
theorem ok_both {f fI : Addr} {fd fdI : FuncData} (F : Fun K "_law_both" "_law_both" sBoth f fd) (GI : FnOk P w K mg base CX0 3 fI fdI ["tree", "other"] spIsTurn) (bI : Binds K fdI ["tree", "other"] []) (mI : mg "is_turn" = some (.ref fI))
    (kI : PySem.W.keepIn K (.ref fI) = true) : FnOk P w K mg base CX0 4 f fd ["_law_tree_here", "_law_other"] spBoth := by
  refine F.ok scBoth (fun vs H Q E h => ?_) (fun cdv A outer s H vs Q E hr h => ?_)
  · obtain ⟨v, u, t, o, rfl, _⟩ := h
    rfl
  · obtain ⟨v, u, t, o, rfl, ht, ho, hz1, hz2, k⟩ := h
    refine ⟨_, pss_one (ps_ret (pe_lst (pa_cons (pe_call GI hr rfl mI kI bI .nil pass0 (pa_cons (pv 0) (pa_cons (pv 1) pa_nil))) (pa_cons (pe_call GI hr rfl mI kI bI .nil pass0 (pa_cons (pv 1) (pa_cons (pv 0) pa_nil))) pa_nil)))), ?_⟩
    refine ⟨_, rfl, _, rfl, v, u, t, o, rfl, ht, ho, hz1, hz2, fun r1 H1 e1 s1 => ⟨_, rfl, _, rfl, u, v, o, t, rfl, ho.same s1, ht.same s1, hz2, hz1, fun r2 H2 e2 s2 => ⟨(by show 2 ≤ sizeLine; decide), fun p hp => ?_⟩⟩⟩
    have s12 := s1.trans s2
    have e : r2 = r1 := by
      rw [Bool.eq_iff_iff, e1, e2]
      exact turns_comm.symm
    subst e
    exact k p r2 _ (s12.free hp) upd_same e1 (s12.trans (Same.new hp))
end
end K88
namespace K88
open PySem PySem.Spec PyProof.Rows L2 Vr VM
theorem cnt_small : ∀ n k : _root_.Fin 6, cnt n.val k.val ≤ 14 := by decide +kernel
theorem treesF_small {n : Nat} {row : List Str} (h1 : n ≤ 5) (h2 : row.length ≤ 5) : (treesF n row).length ≤ 14 := by
  rw [treesF_cnt]
  exact cnt_small ⟨n, by omega⟩ ⟨row.length, by omega⟩
def pairsT (ls rs : List T) : List T := ls.flatMap fun l => rs.map fun r => .node l r
theorem pairsT_len (ls rs : List T) : (pairsT ls rs).length = ls.length * rs.length := by
  unfold pairsT
  induction ls with
  | nil => simp
  | cons a b ih =>
    rw [List.flatMap_cons, List.length_append, ih, List.length_map, List.length_cons, Nat.succ_mul, Nat.add_comm]
def partT (n : Nat) (row : List Str) (i : Nat) : List T := (List.range i).flatMap fun j => pairsT (treesF n (row.take (j + 1))) (treesF n (row.drop (j + 1)))
theorem partT_succ (n : Nat) (row : List Str) (i : Nat) : partT n row (i + 1) = partT n row i ++ pairsT (treesF n (row.take (i + 1))) (treesF n (row.drop (i + 1))) := by
  unfold partT
  rw [List.range_succ, List.flatMap_append]
  simp
theorem partT_len (n : Nat) (row : List Str) (h1 : n ≤ 5) (h2 : row.length ≤ 5) : ∀ i, (partT n row i).length ≤ 196 * i
  | 0 => Nat.le_refl _
  | i + 1 => by
    have ih := partT_len n row h1 h2 i
    have a := treesF_small (row := row.take (i + 1)) h1 (by rw [List.length_take]; omega)
    have b := treesF_small (row := row.drop (i + 1)) h1 (by rw [List.length_drop]; omega)
    rw [partT_succ, List.length_append, pairsT_len]
    have := Nat.mul_le_mul a b
    omega
section
variable {P : Program} {w : World} {K : PySem.W.Frag} {mg : Str → Option Value} {base : Heap}
abbrev nTrees : List Str := ["_law_row", "_law_found", "_law_size", "_law_rights", "_law_left", "_law_right"]
theorem scTrees : FnScope nTrees ["_law_row"] (defScope sTrees) := ⟨rfl, rfl, rfl, by decide +kernel, rfl, by decide +kernel, by decide +kernel⟩
theorem ok_trees {f : Addr} {fd : FuncData} (F : Fun K "_law_trees" "_law_trees" sTrees f fd) (b0 : Binds K fd ["_law_row"] []) (m0 : mg "_law_trees" = some (.ref f)) (gLen : mg "len" = none) (gRange : mg "range" = none) :
    ∀ n : Nat, FnOk P w K mg base CX0 (n + 1) f fd ["_law_row"] (spTrees n)
  | 0 => ⟨fun vs H Q E h => (by obtain ⟨a, row, rfl, _⟩ := h; rfl), fun A outer s H args us vs Q E _ _ _ _ h => (by obtain ⟨a, row, _, _, h1, h2, _⟩ := h; omega)⟩
  | n + 1 => by
    have GR := ok_trees F b0 m0 gLen gRange n
    refine F.ok scTrees (fun vs H Q E h => ?_) (fun cdv A outer s H vs Q E hr h => ?_)
    · obtain ⟨a, row, rfl, _⟩ := h
      rfl
    · obtain ⟨a, row, rfl, ha, l1, l2, l3, k⟩ := h
      refine ⟨_, pss_cons (ps_if (pt_cmpR op_eq (pe_callB call_len_seq (by rfl) gLen PySem.boot_len (pa_cons (pv 0) pa_nil)) pe_int (nomark _)) (pss_one (ps_ret (pe_lst (pa_cons (pe_ix ix_tup (pv 0) pe_int (fun _ _ => rfl)) pa_nil)))) pss_nil)
        (pss_cons (ps_set (i := 1) scTrees.nd rfl (Or.inl rfl) (pe_lst pa_nil))
        (pss_cons (ps_for PassesOwn.never rfl (pi_range2 (by rfl) gRange (pa_cons pe_int (pa_cons (pe_callB call_len_seq (by rfl) gLen PySem.boot_len (pa_cons (pv 0) pa_nil)) pa_nil))) (pg_name (i := 2) scTrees.nd rfl (Or.inl rfl))
          (pss_cons (ps_set (i := 3) scTrees.nd rfl (Or.inl rfl) (pe_call GR hr rfl m0 F.kp b0 .nil pass0 (pa_cons (pe_slice sl_tup (pv 0) (po_some (pv 2)) po_none) pa_nil)))
          (pss_one (ps_for PassesOwn.never rfl (pi_list (pe_call GR hr rfl m0 F.kp b0 .nil pass0 (pa_cons (pe_slice sl_tup (pv 0) po_none (po_some (pv 2))) pa_nil))) (pg_name (i := 4) scTrees.nd rfl (Or.inr rfl))
            (pss_one (ps_expr (pe_bm PySem.F.plainAttrs_list PySem.F.slot_list_extend PySem.F.type_list_extend mt_extend (pv 1) (pa_cons
              (pe_lc (own := [("_law_right", 5)]) (g := gName 5) (tt := tYes) rfl scTrees.nd (pi_list (pv 3)) (blkOk_by (N := nTrees) (sc := defScope sTrees) (by decide +kernel)) (fun _ _ _ _ _ => pg_name (i := 5) scTrees.nd rfl (Or.inl rfl)) (fun _ _ _ _ _ => pts_nil)
                (fun _ _ _ _ _ => pe_tup (pa_cons (pv 4) (pa_cons (pv 5) pa_nil)))) pa_nil))))))))
        (pss_one (ps_ret (pv 1))))), ?_⟩
      refine ⟨_, rfl, a, _, rfl, Or.inr (SqT.of ha), rfl, _, rfl, ?_⟩
      refine ite2 (fun c => ?_) (fun c => ?_)
      · have c1 := of_decide_eq_true c
        rw [List.length_map] at c1
        have c2 : row.length = 1 := by
          have := V.int.inj c1
          omega
        obtain ⟨x, rfl⟩ := List.length_eq_one_iff.mp c2
        refine ⟨_, rfl, a, _, _, _, rfl, rfl, SqT.of ha, rfl, (by show 1 ≤ sizeLine; decide), fun p hp => ?_⟩
        exact k p [.str x] _ hp upd_same ⟨rfl, trivial⟩ (Same.new hp)
      · have c1 : ¬ V.int ((row.map V.str).length : Int) = V.int 1 := fun z => c (decide_eq_true z)
        rw [List.length_map] at c1
        have c2 : row.length ≠ 1 := fun z => c1 (by rw [z]; rfl)
        have e0 := treesF_more n row c2
        refine ⟨(by show 0 ≤ sizeLine; decide), fun fl hf => ?_⟩
        have s0 : Same H (upd H fl (.lst [])) := Same.new hf
        refine ⟨_, rfl, a, _, rfl, Or.inr (SqT.of (s0 _ _ ha)), ?_⟩
        refine ⟨1, _, rfl, ⟨by decide, by decide, by omega, by rw [List.length_map]; omega⟩, ?_⟩
        have en : (((row.map V.str).length : Int) - 1).toNat = row.length - 1 := by
          rw [List.length_map]
          omega
        rw [en]
        have l5 : row.length ≤ 5 := by omega
        refine for_range (lo := 1) (n := row.length - 1) (fun i σ H1 => ∃ (o2 o3 o4 o5 : Option V) (us : List V), σ = [some (.ref a), some (.ref fl), o2, o3, o4, o5] ∧ H1 fl = some (.lst us) ∧ TreeAll H1 us (partT n row i) ∧ Same H H1)
          ⟨none, none, none, none, [], rfl, upd_same, trivial, s0⟩ ?_ ?_
        · rintro i σ H1 hi ⟨o2, o3, o4, o5, us, rfl, hu, au, s1⟩
          obtain ⟨z, hz⟩ : ∃ z : Nat, (1 : Int) + (i : Int) = (z : Int) := ⟨i + 1, by omega⟩
          have ez : z = i + 1 := by omega
          show gName 2 (V.int (1 + (i : Int))) _ _ _
          rw [hz]
          subst ez
          have zm : i + 1 ≤ (row.map V.str).length := by
            rw [List.length_map]
            omega
          have ha1 := s1 _ _ ha
          -- the right parts
          refine ⟨_, rfl, _, rfl, _, rfl, a, _, rfl, SqT.of ha1, ?_, fun pd hpd => ?_⟩
          · rw [HT.sIx_nat, Nat.min_eq_left zm]
            omega
          rw [cut_hi _ _ zm]
          have sd := Same.new (o := .tup ((row.map V.str).drop (i + 1))) hpd
          refine ⟨pd, row.drop (i + 1), rfl, by rw [upd_same, List.map_drop], by rw [List.length_drop]; omega, by rw [List.length_drop]; omega, by omega, fun pr rs H2 nr hr' ar s2 => ?_⟩
          have s12 := sd.trans s2
          have nrf : pr ≠ fl := (ne_of_none (sd _ _ hu) nr).symm
          -- the left parts
          have ha2 := s12 _ _ ha1
          refine ⟨_, rfl, _, rfl, _, rfl, a, _, rfl, SqT.of ha2, ?_, fun pt hpt => ?_⟩
          · rw [HT.sIx_nat, Nat.min_eq_left zm]
            first | omega | (rw [List.length_map]; omega)
          rw [cut_lo _ _ zm]
          have st := Same.new (o := .tup ((row.map V.str).take (i + 1))) hpt
          refine ⟨pt, row.take (i + 1), rfl, by rw [upd_same, List.map_take], by rw [List.length_take]; omega, by rw [List.length_take]; omega, by omega, fun pl ls H3 nl hl al s3 => ⟨_, rfl, ⟨_, SqL.of hl⟩, ?_⟩⟩
          have s23 := st.trans s3
          have s13 := s12.trans s23
          have hu3 := s13 _ _ hu
          have nlf : pl ≠ fl := (ne_of_none (st _ _ (s12 _ _ hu)) nl).symm
          have hr3 := s23 _ _ hr'
          have ar3 := TreeAll.same s23 ar
          have au3 := TreeAll.same s13 au
          have lls := al.length
          have lrs := ar.length
          have b1 := treesF_small (n := n) (row := row.take (i + 1)) (by omega) (by rw [List.length_take]; omega)
          have b2 := treesF_small (n := n) (row := row.drop (i + 1)) (by omega) (by rw [List.length_drop]; omega)
          have b3 := partT_len n row (by omega) l5 i
          rw [partT_succ]
          generalize treesF n (row.take (i + 1)) = tls at *
          generalize treesF n (row.drop (i + 1)) = trs at *
          refine for_list (xs := ls) (fun j σ H4 => ∃ (o4 o5 : Option V) (us2 : List V), σ = [some (.ref a), some (.ref fl), some (.int ((i + 1 : Nat) : Int)), some (.ref pr), o4, o5] ∧ H4 fl = some (.lst us2) ∧
              TreeAll H4 us2 (partT n row i ++ pairsT (tls.take j) trs) ∧ But fl H3 H4 ∧ Same H H4)
            ⟨_, _, us, rfl, hu3, by simpa [pairsT] using au3, But.refl _ _, s1.trans s13⟩ (fun j σ H4 _ ⟨_, _, _, _, _, _, k4, _⟩ => SqL.of (k4 _ _ hl nlf)) ?_ ?_
          · rintro j x σ H4 hx ⟨o4, o5, us2, rfl, hu4, au4, k4, s4⟩
            obtain ⟨tc, htc, tx⟩ := al.get hx
            have lj := (List.getElem?_eq_some_iff.mp hx).1
            have kt4 : ∀ p xs, H3 p = some (.tup xs) → H4 p = some (.tup xs) := fun p xs e => k4 _ _ e (ne_of e hu3 (by intro z; cases z))
            have lu := au4.length
            rw [List.length_append, pairsT_len, List.length_take, Nat.min_eq_left (by omega)] at lu
            have bj : j * trs.length ≤ 14 * 14 := Nat.mul_le_mul (by omega) b2
            refine ⟨_, rfl, Or.inl ⟨rfl, _, SqL.of hu4⟩, _, rfl, _, rfl, ⟨_, SqL.of (k4 _ _ hr3 nrf)⟩, fun D hD => ?_⟩
            refine lc_list (xs := rs) (fun m H5 => ∃ acc : List V, acc.length = m ∧ H5 D = some (.lst acc) ∧ TreeAll H5 acc ((trs.take m).map fun r => .node tc r) ∧ Same H4 H5)
              ⟨[], rfl, upd_same, trivial, Same.new hD⟩ (fun m H5 _ ⟨acc, _, _, _, e4⟩ => SqL.of (e4 _ _ (k4 _ _ hr3 nrf))) ?_ ?_
            · rintro m y H5 hy ⟨acc, e1, e2, e3, e4⟩
              obtain ⟨tr, htr, ty⟩ := ar3.get hy
              have lm := (List.getElem?_eq_some_iff.mp hy).1
              refine ⟨rfl, _, rfl, _, rfl, (by show 2 ≤ sizeLine; decide), fun q hq => ?_⟩
              have sq := Same.new (o := .tup [x, y]) hq
              have e2' := sq _ _ e2
              refine ⟨acc, e2', by rw [sizeLine_eq]; omega, acc ++ [.ref q], by simp [e1], upd_same, ?_, Same.newer hD (e4.trans sq)⟩
              rw [List.take_add_one, htr, List.map_append]
              exact (TreeAll.save2 (keepT e2') (TreeAll.same sq e3)).append ⟨TreeAt.keep (keepT e2') (t := .node tc tr) ⟨q, x, y, rfl, upd_same, ((tx.keep kt4).same e4).new hq, ((ty.keep kt4).same e4).new hq⟩, trivial⟩
            · rintro H5 ⟨acc, e1, e2, e3, e4⟩
              rw [List.take_of_length_le (by omega)] at e3
              have hu5 := e4 _ _ hu4
              refine ⟨fl, D, us2, acc, rfl, rfl, hu5, e2, by rw [sizeLine_eq]; omega, ?_⟩
              refine ⟨_, _, us2 ++ acc, rfl, upd_same, ?_, ?_, Same.newer hf (s4.trans e4)⟩
              · have e9 : pairsT (tls.take (j + 1)) trs = pairsT (tls.take j) trs ++ trs.map fun r => .node tc r := by
                  unfold pairsT
                  rw [List.take_add_one, htc, List.flatMap_append]
                  simp
                rw [e9, ← List.append_assoc]
                exact TreeAll.save2 (keepT hu5) ((TreeAll.same e4 au4).append e3)
              · intro c o e ne
                rw [upd_ne ne]
                exact e4 _ _ (k4 _ _ e ne)
          · rintro σ H4 ⟨o4, o5, us2, rfl, hu4, au4, k4, s4⟩
            rw [List.take_of_length_le (by omega)] at au4
            exact ⟨_, _, _, _, us2, rfl, hu4, au4, s4⟩
        · rintro σ H1 ⟨o2, o3, o4, o5, us, rfl, hu, au, s1⟩
          have e1 : partT n row (row.length - 1) = treesF (n + 1) row := e0.symm
          rw [e1] at au
          exact ⟨_, rfl, k fl us _ hf hu au s1⟩
end
end K88
namespace K88
open PySem PySem.Spec PyProof.Rows L2 Vr VM
abbrev sLaw : Stmt := top 17
def spLaw (K : PySem.W.Frag) : Sp := fun vs H Q _ => ∃ (a : Addr) (ns : List Int), vs = [.ref a] ∧ SqL K H a (ns.map V.int) ∧ ns.length ≤ 63 ∧ ∀ H', Q (.bl true) H'
structure Txt (P : Program) (w : World) (K : PySem.W.Frag) (mg : Str → Option Value) (base : Heap) : Prop where
  ex : ∃ (fT fB fN fTr fTs fTu fRe fBo fI fTd : Addr) (dT dB dN dTr dTs dTu dRe dBo dI dTd : FuncData),
    FnOk P w K mg base CX0 1 fT dT ["_law_bag_here", "_law_many"] spTake ∧ FnOk P w K mg base CX0 1 fB dB ["_law_script", "_law_at"] (spBag K) ∧ FnOk P w K mg base CX0 2 fN dN ["_law_bag_here", "_law_many"] spNames ∧
    FnOk P w K mg base CX0 6 fTr dTr ["_law_bag_here", "_law_row"] (spTree 5) ∧ FnOk P w K mg base CX0 6 fTs dTs ["_law_row"] (spTrees 5) ∧ FnOk P w K mg base CX0 6 fTu dTu ["_law_tree_here"] (spTurns 5) ∧
    FnOk P w K mg base CX0 6 fRe dRe ["_law_tree_here", "_law_place", "_law_name"] (spRen 5) ∧ FnOk P w K mg base CX0 4 fBo dBo ["_law_tree_here", "_law_other"] spBoth ∧ FnOk P w K mg base CX0 3 fI dI ["tree", "other"] spIsTurn ∧
    FnOk P w K mg base CX0 2 fTd dTd ["tree"] spTurned ∧
    (Binds K dT ["_law_bag_here", "_law_many"] [] ∧ mg "_law_take" = some (.ref fT) ∧ PySem.W.keepIn K (.ref fT) = true) ∧ (Binds K dB ["_law_script", "_law_at"] [] ∧ mg "_law_bag" = some (.ref fB) ∧ PySem.W.keepIn K (.ref fB) = true) ∧
    (Binds K dN ["_law_bag_here", "_law_many"] [] ∧ mg "_law_names" = some (.ref fN) ∧ PySem.W.keepIn K (.ref fN) = true) ∧ (Binds K dTr ["_law_bag_here", "_law_row"] [] ∧ mg "_law_tree" = some (.ref fTr) ∧ PySem.W.keepIn K (.ref fTr) = true) ∧
    (Binds K dTs ["_law_row"] [] ∧ mg "_law_trees" = some (.ref fTs) ∧ PySem.W.keepIn K (.ref fTs) = true) ∧ (Binds K dTu ["_law_tree_here"] [] ∧ mg "_law_turns" = some (.ref fTu) ∧ PySem.W.keepIn K (.ref fTu) = true) ∧
    (Binds K dRe ["_law_tree_here", "_law_place", "_law_name"] [] ∧ mg "_law_renamed" = some (.ref fRe) ∧ PySem.W.keepIn K (.ref fRe) = true) ∧ (Binds K dBo ["_law_tree_here", "_law_other"] [] ∧ mg "_law_both" = some (.ref fBo) ∧ PySem.W.keepIn K (.ref fBo) = true) ∧
    (Binds K dI ["tree", "other"] [] ∧ mg "is_turn" = some (.ref fI) ∧ PySem.W.keepIn K (.ref fI) = true) ∧ (Binds K dTd ["tree"] [] ∧ mg "turned" = some (.ref fTd) ∧ PySem.W.keepIn K (.ref fTd) = true)
  gLen : mg "len" = none
  gRange : mg "range" = none
  gMax : mg "max" = none
  gMin : mg "min" = none
  gTuple : mg "tuple" = none
structure Nears (x y : Str) (k : Nat) (ts us : List T) : Prop where
  l1 : ts.length = k
  l2 : us.length = k
  rel : ∀ (i : Nat) (t u : T), ts[i]? = some t → us[i]? = some u → u ∈ t.turns ∧ t.row.length ≤ 5 ∧ ∀ c ∈ t.row, c = x ∨ c = y
theorem two_of {α : Type} {l : List α} (h : l.length = 2) : ∃ a b, l = [a, b] := by
  match l, h with
  | [a, b], _ => exact ⟨a, b, rfl⟩
/-- a pair of a tree and whether it is a turn of the whole -/
def Item (H : Hp) (x : V) (whole : T) : Prop := ∃ (bm : Addr) (ov : V) (dv : Bool) (oT : T), x = .ref bm ∧ H bm = some (.tup [ov, .bl dv]) ∧ TreeAt H ov oT ∧ oT.size = whole.size ∧ (dv = true ↔ oT ∈ whole.turns)
theorem Item.same {H H' : Hp} {x : V} {whole : T} (h : Item H x whole) (k : Same H H') : Item H' x whole := by
  obtain ⟨bm, ov, dv, oT, e, h1, h2, h3⟩ := h
  exact ⟨bm, ov, dv, oT, e, k _ _ h1, h2.same k, h3⟩
def Item2 (H : Hp) (x : V) (dv : Bool) : Prop := ∃ (bm : Addr) (wv pv : V) (wT pT : T), x = .ref bm ∧ H bm = some (.tup [wv, pv]) ∧ TreeAt H wv wT ∧ TreeAt H pv pT ∧ wT.size ≤ 100 ∧ pT.size ≤ 100 ∧ (dv = true ↔ pT ∈ wT.turns)
theorem Item2.same {H H' : Hp} {x : V} {dv : Bool} (h : Item2 H x dv) (k : Same H H') : Item2 H' x dv := by
  obtain ⟨bm, wv, pv, wT, pT, e, h1, h2, h3, h4⟩ := h
  exact ⟨bm, wv, pv, wT, pT, e, k _ _ h1, h2.same k, h3.same k, h4⟩
theorem turns_ne : ∀ t : T, 3 ≤ t.row.length → t.turns ≠ []
  | .leaf x, h => by simp [T.row] at h
  | .node l r, h => fun e => by
    cases l with
    | node a b =>
      have : T.node a (.node b r) ∈ (T.node (.node a b) r).turns := mem_turns.mpr (.inr (.inr (.inl ⟨a, b, rfl, rfl⟩)))
      rw [e] at this
      cases this
    | leaf x =>
      cases r with
      | leaf y => simp [T.row] at h
      | node a b =>
        have : T.node (.node (.leaf x) a) b ∈ (T.node (.leaf x) (.node a b)).turns := mem_turns.mpr (.inr (.inr (.inr ⟨a, b, rfl, rfl⟩)))
        rw [e] at this
        cases this
section
variable {P : Program} {w : World} {K : PySem.W.Frag} {mg : Str → Option Value} {base : Heap}
abbrev nLaw : List Str := ["_law_script", "_law_at", "_law_bag_here", "_law_names_here", "_law_turn", "_law_pair", "_law_near", "_law_step", "_law_row", "_law_some", "_law_one", "_law_two", "_law_tree_here", "_law_around", "_law_other", "_law_due", "_law_whole", "_law_part", "_law_place", "_law_k"]
theorem scLaw : FnScope nLaw ["_law_script"] (defScope sLaw) := ⟨rfl, rfl, rfl, by decide +kernel, rfl, by decide +kernel, by decide +kernel⟩
theorem ok_law {f : Addr} {fd : FuncData} (F : Fun K "law" "law" sLaw f fd) (T : Txt P w K mg base) : FnOk P w K mg base CX0 7 f fd ["_law_script"] (spLaw K) := by
  refine F.ok scLaw (fun vs H Q E h => ?_) (fun cdv A outer s H vs Q E hr h => ?_)
  · obtain ⟨a, ns, rfl, _⟩ := h
    rfl
  · obtain ⟨a, ns, rfl, hS, hlen, k⟩ := h
    have r1 : Room 1 _ := hr.mono (by decide)
    have r2 : Room 2 _ := hr.mono (by decide)
    have r3 : Room 3 _ := hr.mono (by decide)
    have r4 : Room 4 _ := hr.mono (by decide)
    obtain ⟨⟨fT, fB, fN, fTr, fTs, fTu, fRe, fBo, fI, fTd, dT, dB, dN, dTr, dTs, dTu, dRe, dBo, dI, dTd, GT, GB, GN, GTr, GTs, GTu, GRe, GBo, GI, GTd, ⟨bT, mT, kT⟩, ⟨bB, mB, kB⟩, ⟨bN, mN, kN⟩, ⟨bTr, mTr, kTr⟩, ⟨bTs, mTs, kTs⟩, ⟨bTu, mTu, kTu⟩, ⟨bRe, mRe, kRe⟩,
      ⟨bBo, mBo, kBo⟩, ⟨bI, mI, kI⟩, ⟨bTd, mTd, kTd⟩⟩, gLen, gRange, gMax, gMin, gTuple⟩ := T
    refine ⟨_, (pss_cons (ps_for PassesOwn.never rfl (pi_range1 (by rfl) gRange (pa_cons (pe_callB (call_max2 rfl) (by rfl) gMax (by decide +kernel) (pa_cons pe_int (pa_cons (pe_callB (call_min2 rfl) (by rfl) gMin (by decide +kernel) (pa_cons pe_int (pa_cons (pe_callB call_len_seq (by rfl) gLen PySem.boot_len (pa_cons (pv 0) pa_nil)) pa_nil))) pa_nil))) pa_nil)) (pg_name (i := 1) scLaw.nd rfl (Or.inl rfl)) (pss_cons (ps_set (i := 2) scLaw.nd rfl (Or.inr rfl) (pe_call GB r1 (by rfl) mB kB bB .nil pass0 (pa_cons (pv 0) (pa_cons (pv 1) pa_nil))))
      (pss_cons (ps_set (i := 3) scLaw.nd rfl (Or.inr rfl) (pe_call GN r2 (by rfl) mN kN bN .nil pass0 (pa_cons (pv 2) (pa_cons pe_int pa_nil))))
      (C8.pss_cut (ps_for PassesOwn.never rfl (pi_range1 (by rfl) gRange (pa_cons pe_int pa_nil)) (pg_name (i := 4) scLaw.nd rfl (Or.inl rfl)) (pss_cons (ps_par (i := 5) (j := 6) (by rfl) scLaw.nd rfl rfl (by decide) rfl rfl (pa_cons (pe_lst pa_nil) (pa_cons (pe_lst pa_nil) pa_nil)) (by rfl))
      (C8.pss_cut (ps_for PassesOwn.never rfl (pi_range1 (by rfl) gRange (pa_cons pe_int pa_nil)) (pg_name (i := 7) scLaw.nd rfl (Or.inl rfl)) (pss_cons (ps_set (i := 8) scLaw.nd rfl (Or.inl rfl) (pe_callTy call_tuple_of (by rfl) gTuple (by decide +kernel) (pa_cons (pe_lc (own := [("_law_k", 19)]) (g := gName 19) (tt := tYes) rfl scLaw.nd (pi_range1 (by rfl) gRange (pa_cons (pe_op op_add pe_int (pe_call GT r1 (by rfl) mT kT bT .nil pass0 (pa_cons (pv 2) (pa_cons pe_int pa_nil)))) pa_nil)) (blkOk_by (N := nLaw) (sc := defScope sLaw) (by decide +kernel)) (fun _ _ _ _ _ => pg_name (i := 19) scLaw.nd rfl (Or.inl rfl)) (fun _ _ _ _ _ => pts_nil) (fun _ _ _ _ _ => (pe_ix (r := rIxL K) ix_list (pv 3) (pe_call GT r1 (by rfl) mT kT bT .nil pass0 (pa_cons (pv 2) (pa_cons pe_int pa_nil))) (fun _ _ => rfl)))) pa_nil)))
      (pss_cons (ps_expr (pe_bm PySem.F.plainAttrs_list PySem.F.slot_list_append PySem.F.type_list_append mt_append (pv 5) (pa_cons (pe_call GTr hr (by rfl) mTr kTr bTr .nil pass0 (pa_cons (pv 2) (pa_cons (pv 8) pa_nil))) pa_nil)))
      (pss_cons (ps_set (i := 9) scLaw.nd rfl (Or.inl rfl) (pe_call GTu hr (by rfl) mTu kTu bTu .nil pass0 (pa_cons (pe_ix ix_list (pv 5) (pv 7) (fun _ _ => rfl)) pa_nil)))
      (pss_one (ps_expr (pe_bm PySem.F.plainAttrs_list PySem.F.slot_list_append PySem.F.type_list_append mt_append (pv 6) (pa_cons (pe_ix ix_list (pv 9) (pe_call GT r1 (by rfl) mT kT bT .nil pass0 (pa_cons (pv 2) (pa_cons (pe_callB call_len_seq (by rfl) gLen PySem.boot_len (pa_cons (pv 9) pa_nil)) pa_nil))) (fun _ _ => rfl)) pa_nil))))))))
      (pss_cons (ps_asg (pv 5) (pg_lst rfl (pgs_cons (pg_name (i := 10) scLaw.nd rfl (Or.inl rfl)) (pgs_cons (pg_name (i := 11) scLaw.nd rfl (Or.inl rfl)) pgs_nil))))
      (pss_cons (ps_asg (pe_tup (pa_cons (pe_tup (pa_cons (pv 10) (pa_cons (pv 11) pa_nil))) (pa_cons (pe_ix ix_list (pv 3) (pe_call GT r1 (by rfl) mT kT bT .nil pass0 (pa_cons (pv 2) (pa_cons pe_int pa_nil))) (fun _ _ => rfl)) pa_nil))) (pg_tup rfl (pgs_cons (pg_name (i := 12) scLaw.nd rfl (Or.inr rfl)) (pgs_cons (pg_name (i := 13) scLaw.nd rfl (Or.inl rfl)) pgs_nil))))
      (C8.pss_cut (ps_for PassesOwn.never rfl (pi_list (pe_lst (pa_cons (pe_tup (pa_cons (pe_tup (pa_cons (pe_ix ix_list (pv 6) pe_int (fun _ _ => rfl)) (pa_cons (pv 11) pa_nil))) (pa_cons pe_bl pa_nil))) (pa_cons (pe_tup (pa_cons (pe_tup (pa_cons (pv 10) (pa_cons (pe_ix ix_list (pv 6) pe_int (fun _ _ => rfl)) pa_nil))) (pa_cons pe_bl pa_nil))) (pa_cons (pe_tup (pa_cons (pe_tup (pa_cons (pe_ix ix_list (pv 6) pe_int (fun _ _ => rfl)) (pa_cons (pe_ix ix_list (pv 6) pe_int (fun _ _ => rfl)) pa_nil))) (pa_cons pe_bl pa_nil))) pa_nil))))) (pg_tup rfl (pgs_cons (pg_name (i := 14) scLaw.nd rfl (Or.inl rfl)) (pgs_cons (pg_name (i := 15) scLaw.nd rfl (Or.inl rfl)) pgs_nil))) (pss_cons (ps_set (i := 9) scLaw.nd rfl (Or.inl rfl) (pe_lst (pa_cons (pe_tup (pa_cons (pv 12) (pa_cons (pv 14) pa_nil))) (pa_cons (pe_tup (pa_cons (pe_tup (pa_cons (pv 13) (pa_cons (pv 12) pa_nil))) (pa_cons (pe_tup (pa_cons (pv 13) (pa_cons (pv 14) pa_nil))) pa_nil))) (pa_cons (pe_tup (pa_cons (pe_tup (pa_cons (pv 12) (pa_cons (pv 13) pa_nil))) (pa_cons (pe_tup (pa_cons (pv 14) (pa_cons (pv 13) pa_nil))) pa_nil))) pa_nil)))))
      (pss_one (ps_for PassesOwn.never rfl (pi_list (pv 9)) (pg_tup rfl (pgs_cons (pg_name (i := 16) scLaw.nd rfl (Or.inl rfl)) (pgs_cons (pg_name (i := 17) scLaw.nd rfl (Or.inl rfl)) pgs_nil))) (pss_one (ps_if (pt_cmpR (op_neD hr.units) (pe_call GBo r4 (by rfl) mBo kBo bBo .nil pass0 (pa_cons (pv 16) (pa_cons (pv 17) pa_nil))) (pe_lst (pa_cons (pv 15) (pa_cons (pv 15) pa_nil))) (nomark _)) (pss_one (ps_ret pe_bl)) pss_nil))))))
      (pss_one (ps_for PassesOwn.never rfl (pi_range1 (by rfl) gRange (pa_cons (pe_ix ix_tup (pe_call GRe hr (by rfl) mRe kRe bRe .nil pass0 (pa_cons (pe_ix ix_list (pv 6) pe_int (fun _ _ => rfl)) (pa_cons pe_int (pa_cons (pe_ix ix_list (pv 3) pe_int (fun _ _ => rfl)) pa_nil)))) pe_int (fun _ _ => rfl)) pa_nil)) (pg_name (i := 18) scLaw.nd rfl (Or.inl rfl)) (pss_one (ps_if (pt_cmpR (op_neD hr.units) (pe_call GBo r4 (by rfl) mBo kBo bBo .nil pass0 (pa_cons (pv 10) (pa_cons (pe_ix ix_tup (pe_call GRe hr (by rfl) mRe kRe bRe .nil pass0 (pa_cons (pe_ix ix_list (pv 6) pe_int (fun _ _ => rfl)) (pa_cons (pv 18) (pa_cons (pe_ix ix_list (pv 3) pe_int (fun _ _ => rfl)) pa_nil)))) pe_int (fun _ _ => rfl)) pa_nil))) (pe_lst (pa_cons pe_bl (pa_cons pe_bl pa_nil))) (nomark _)) (pss_one (ps_ret pe_bl)) pss_nil))))))))))
      (pss_cons (ps_set (i := 8) scLaw.nd rfl (Or.inl rfl) (pe_op op_repT (pe_tup (pa_cons (pe_ix ix_list (pv 3) pe_int (fun _ _ => rfl)) pa_nil)) (pe_op op_add pe_int (pe_call GT r1 (by rfl) mT kT bT .nil pass0 (pa_cons (pv 2) (pa_cons pe_int pa_nil))))))
      (pss_one (ps_for PassesOwn.never rfl (pi_list (pe_slice sl_list (pe_call GTs hr (by rfl) mTs kTs bTs .nil pass0 (pa_cons (pv 8) pa_nil)) po_none (po_some pe_int))) (pg_name (i := 12) scLaw.nd rfl (Or.inr rfl)) (pss_one (ps_if (pt_cmpR op_ne (pe_callB call_len_seq (by rfl) gLen PySem.boot_len (pa_cons (pe_lc (own := [("_law_one", 10)]) (g := gName 10) (tt := tB (tCall spIsTurn [] E0 (tCons (tVar 12) (tCons (tVar 10) tNil)))) rfl scLaw.nd (pi_list (pe_call GTs hr (by rfl) mTs kTs bTs .nil pass0 (pa_cons (pv 8) pa_nil))) (blkOk_by (N := nLaw) (sc := defScope sLaw) (by decide +kernel)) (fun _ _ _ _ _ => pg_name (i := 10) scLaw.nd rfl (Or.inl rfl)) (fun _ _ _ _ _ => pts_one (pt_val (pe_call GI r3 (by rfl) mI kI bI .nil pass0 (pa_cons (pv 12) (pa_cons (pv 10) pa_nil))))) (fun _ _ _ _ _ => (pv 10))) pa_nil)) (pe_callB call_len_seq (by rfl) gLen PySem.boot_len (pa_cons (pe_call GTd r2 (by rfl) mTd kTd bTd .nil pass0 (pa_cons (pv 12) pa_nil)) pa_nil)) (nomark _)) (pss_one (ps_ret pe_bl)) pss_nil)))))))))
      (pss_one (ps_ret pe_bl))), ?_⟩
    have two : ∀ n : Nat, 1 ≤ (if (if (n : Int) < 2 then (n : Int) else 2) > 1 then (if (n : Int) < 2 then (n : Int) else 2) else 1) ∧ (if (if (n : Int) < 2 then (n : Int) else 2) > 1 then (if (n : Int) < 2 then (n : Int) else 2) else 1) ≤ 2 := by
      intro n
      repeat' split
      all_goals omega
    have t2 := two (List.map V.int ns).length
    refine ⟨_, rfl, a, _, rfl, Or.inl hS, _, _, rfl, _, _, rfl, _, rfl, Int.le_trans (by decide) t2.1, Int.lt_of_le_of_lt t2.2 (by decide), ?_⟩
    refine for_range (lo := 0) (fun i σ H1 => (∃ (o1 o2 o3 o4 o5 o6 o7 o8 o9 o10 o11 o12 o13 o14 o15 o16 o17 o18 o19 : Option V), σ = [some (.ref a), o1, o2, o3, o4, o5, o6, o7, o8, o9, o10, o11, o12, o13, o14, o15, o16, o17, o18, o19]) ∧ Same H H1)
      ⟨⟨none, none, none, none, none, none, none, none, none, none, none, none, none, none, none, none, none, none, none, rfl⟩, Same.refl H⟩ ?_ ?_
    · rintro i σ H1 hi ⟨⟨o1, o2, o3, o4, o5, o6, o7, o8, o9, o10, o11, o12, o13, o14, o15, o16, o17, o18, o19, rfl⟩, s1⟩
      have i2 : (i : Int) < 2 := by
        have := t2.2
        omega
      clear two t2 hi
      -- the bag, the names
      refine ⟨_, rfl, _, rfl, a, ns, _, rfl, s1.seq hS, hlen, by omega, by omega, fun b H2 nb hb2 s2 => ?_⟩
      have nbH : H b = none := s1.free nb
      refine ⟨_, rfl, b, 3, rfl, by decide, by decide, hb2, fun p nms H3 np len3 good3 nd3 hp3 hb3 k3 => ?_⟩
      have npb : p ≠ b := hb2.ne np
      have s3 : Same H H3 := Same.thenBut nbH (s1.trans s2) k3
      have nd3 := nd3 (by decide)
      obtain ⟨x, y, z, rfl⟩ : ∃ x y z, nms = [x, y, z] := by
        match nms, len3 with
        | [x, y, z], _ => exact ⟨x, y, z, rfl⟩
        | [], e => simp at e
        | [_], e => simp at e
        | [_, _], e => simp at e
        | _ :: _ :: _ :: _ :: l, e =>
          have e : ((l.length + 4 : Nat) : Int) = 3 := e
          omega
      have nzx : z ≠ x := fun e => by simp [e] at nd3
      have nzy : z ≠ y := fun e => by simp [e] at nd3
      clear k3 s1 s2 hb2 np nb len3 nd3
      -- for turn in range(4)
      refine ⟨fun σ H4 => (∃ (o4 o5 o6 o7 o8 o9 o10 o11 o12 o13 o14 o15 o16 o17 o18 o19 : Option V), σ = [some (.ref a), some (.int (0 + (i : Int))), some (.ref b), some (.ref p), o4, o5, o6, o7, o8, o9, o10, o11, o12, o13, o14, o15, o16, o17, o18, o19]) ∧ Bag H4 b ∧ But b H3 H4, ?_, ?_⟩
      · refine ⟨_, rfl, by decide, by decide, ?_⟩
        refine for_range (lo := 0) (fun j σ H4 => (∃ (o4 o5 o6 o7 o8 o9 o10 o11 o12 o13 o14 o15 o16 o17 o18 o19 : Option V), σ = [some (.ref a), some (.int (0 + (i : Int))), some (.ref b), some (.ref p), o4, o5, o6, o7, o8, o9, o10, o11, o12, o13, o14, o15, o16, o17, o18, o19]) ∧ Bag H4 b ∧ But b H3 H4) ⟨⟨_, _, _, _, _, _, _, _, _, _, _, _, _, _, _, _, rfl⟩, hb3, But.refl _ _⟩ ?_ (fun σ H4 h => h)
        rintro j σ H4 hj ⟨⟨o4, o5, o6, o7, o8, o9, o10, o11, o12, o13, o14, o15, o16, o17, o18, o19, rfl⟩, hb4, k4⟩
        refine ⟨(by show 0 ≤ sizeLine; decide), fun pr hpr => ⟨(by show 0 ≤ sizeLine; decide), fun nr hnr => ⟨_, _, rfl, ?_⟩⟩⟩
        have npr : pr ≠ b := hb4.ne hpr
        have nnr : nr ≠ b := (hb4.new (o := .lst []) npr).ne hnr
        have npn : pr ≠ nr := ne_of_none (upd_same (H := H4) (a := pr) (o := .lst [])) hnr
        have hp4 := k4 _ _ hp3 npb
        have k5 : But b H3 (upd (upd H4 pr (.lst [])) nr (.lst [])) := k4.trans ((But.new hpr).trans (But.new hnr))
        have hnr4 : H4 nr = none := by
          rw [upd_ne npn.symm] at hnr
          exact hnr
        have e1 : upd (upd H4 pr (.lst [])) nr (.lst []) pr = some (.lst []) := by
          rw [upd_ne npn, upd_same]
        have e2 : upd (upd H4 pr (.lst [])) nr (.lst []) nr = some (.lst []) := upd_same
        have hb5 : Bag (upd (upd H4 pr (.lst [])) nr (.lst [])) b := (hb4.new npr).new nnr
        have k45 : But b H4 (upd (upd H4 pr (.lst [])) nr (.lst [])) := (But.new hpr).trans (But.new hnr)
        have npp : p ≠ pr := ne_of_none hp4 hpr
        have npnr : p ≠ nr := ne_of_none hp4 hnr4
        generalize upd (upd H4 pr (.lst [])) nr (.lst []) = H5 at *
        -- for step in range(2)
        refine ⟨fun σ H6 => (∃ (o7 o8 o9 o10 o11 o12 o13 o14 o15 o16 o17 o18 o19 : Option V), σ = [some (.ref a), some (.int (0 + (i : Int))), some (.ref b), some (.ref p), some (.int (0 + (j : Int))), some (.ref pr), some (.ref nr), o7, o8, o9, o10, o11, o12, o13, o14, o15, o16, o17, o18, o19]) ∧ ∃ (vs ws : List V) (ts us : List T), H6 pr = some (.lst vs) ∧ H6 nr = some (.lst ws) ∧ TreeAll H6 vs ts ∧ TreeAll H6 ws us ∧ Nears x y 2 ts us ∧ Bag H6 b ∧ But b H4 H6, ?_, ?_⟩
        · refine ⟨_, rfl, by decide, by decide, ?_⟩
          refine for_range (lo := 0) (fun k σ H6 => (∃ (o7 o8 o9 o10 o11 o12 o13 o14 o15 o16 o17 o18 o19 : Option V), σ = [some (.ref a), some (.int (0 + (i : Int))), some (.ref b), some (.ref p), some (.int (0 + (j : Int))), some (.ref pr), some (.ref nr), o7, o8, o9, o10, o11, o12, o13, o14, o15, o16, o17, o18, o19]) ∧ ∃ (vs ws : List V) (ts us : List T), H6 pr = some (.lst vs) ∧ H6 nr = some (.lst ws) ∧ TreeAll H6 vs ts ∧ TreeAll H6 ws us ∧ Nears x y k ts us ∧ Bag H6 b ∧ But b H4 H6)
            ⟨⟨_, _, _, _, _, _, _, _, _, _, _, _, _, rfl⟩, [], [], [], [], e1, e2, trivial, trivial, ⟨rfl, rfl, fun i t u e => (by simp at e)⟩, hb5, k45⟩ ?_ (fun σ H6 h => h)
          clear e1 e2 hb5 k45 k5
          rintro k' σ H6 hk ⟨⟨o7, o8, o9, o10, o11, o12, o13, o14, o15, o16, o17, o18, o19, rfl⟩, vs, ws, ts, us, e1, e2, a1, a2, nrs, hb6, k6⟩
          have hk : k' < 2 := hk
          have hp6 := k6 _ _ hp4 npb
          show gName 7 (V.int (0 + (k' : Int))) _ _ _
          rw [Int.zero_add]
          refine ⟨_, rfl, b, 3, rfl, by decide, by decide, hb6, fun r H7 r0 r1 hb7 k7 => ⟨_, _, rfl, rfl, _, rfl, by omega, by omega, fun D hD => ?_⟩⟩
          have neD : D ≠ b := hb7.ne hD
          have hp7 := k7 _ _ hp6 npb
          refine lc_range (lo := 0) (n := (3 + r).toNat) (fun m H8 => ∃ acc : List Str, acc.length = m ∧ (∀ c ∈ acc, c = x ∨ c = y) ∧ H8 D = some (.lst (acc.map V.str)) ∧ Bag H8 b ∧ But b H7 H8)
            ⟨[], rfl, by simp, upd_same, hb7.new neD, But.new hD⟩ ?_ ?_
          · rintro m H8 hm ⟨acc, c1, c2, c3, c4, c5⟩
            refine ⟨rfl, _, rfl, _, rfl, b, 2, rfl, by decide, by decide, c4, fun q H9 q0 q1 hb9 k9 => ?_⟩
            have hp9 := k9 _ _ (c5 _ _ hp7 npb) npb
            have cs : q = 0 ∨ q = 1 := by omega
            obtain ⟨c, hc, hc2⟩ : ∃ c, atI [V.str x, V.str y, V.str z] q = some (.str c) ∧ (c = x ∨ c = y) := by
              rcases cs with rfl | rfl
              · exact ⟨x, rfl, .inl rfl⟩
              · exact ⟨y, rfl, .inr rfl⟩
            refine ⟨p, _, _, _, rfl, rfl, SqL.of hp9, hc, _, k9 _ _ c3 neD, ?_, acc ++ [c], by simp [c1], ?_, ?_, hb9.new neD, ?_⟩
            · rw [List.length_map, c1]
              exact small1000 (by omega)
            · intro d hd
              rcases List.mem_append.mp hd with hd | hd
              · exact c2 d hd
              · rw [List.mem_singleton.mp hd]
                exact hc2
            · rw [upd_same, List.map_append]
              rfl
            · exact But.newer hD (c5.trans k9)
          rintro H8 ⟨acc, c1, c2, c3, c4, c5⟩
          refine ⟨D, _, rfl, Or.inl ⟨SqL.of c3, fun tp htp => ?_⟩⟩
          have net : tp ≠ b := c4.ne htp
          have k8 := k7.trans c5
          have kt : But b H8 (upd H8 tp (.tup (acc.map V.str))) := But.new htp
          have hb8 := c4.new (o := .tup (acc.map V.str)) net
          have e1' := kt _ _ (k8 _ _ e1 npr) npr
          have e2' := kt _ _ (k8 _ _ e2 nnr) nnr
          have al : acc.length = (3 + r).toNat := c1
          -- pair.append(tree)
          refine ⟨_, rfl, Or.inl ⟨rfl, _, SqL.of e1'⟩, _, rfl, _, rfl, b, tp, acc, rfl, hb8, upd_same, by omega, by omega, by decide, fun v tr H9 htr etr hb9 k9 => ?_⟩
          have lt : tr.row.length = (3 + r).toNat := by rw [etr, al]
          have k69 : But b H6 H9 := k8.trans (kt.trans k9)
          have e19 := k9 _ _ e1' npr
          have e29 := k9 _ _ e2' nnr
          have lv := a1.length
          have lw := a2.length
          obtain ⟨n1, n2, n3⟩ := nrs
          refine ⟨pr, _, _, rfl, rfl, e19, small1000 (by omega), ?_⟩
          have T9 := keepT (o := .lst (vs ++ [v])) e19
          have hb10 : Bag (upd H9 pr (.lst (vs ++ [v]))) b := hb9.new npr
          have k610 : But b H4 (upd H9 pr (.lst (vs ++ [v]))) := But.newer hpr (k6.trans k69)
          have g1 : upd H9 pr (.lst (vs ++ [v])) pr = some (.lst (vs ++ [v])) := upd_same
          have g2 : upd H9 pr (.lst (vs ++ [v])) nr = some (.lst ws) := by
            rw [upd_ne npn.symm]
            exact e29
          have tt : ∀ q xs, H6 q = some (.tup xs) → H9 q = some (.tup xs) := fun q xs e => k69 _ _ e (fun z => by
            obtain ⟨_, _, _, q', _⟩ := hb6
            rw [z, q'] at e
            cases e)
          have g3 := TreeAll.save2 T9 (TreeAll.save2 tt a1)
          have g4 := TreeAll.save2 T9 (TreeAll.save2 tt a2)
          have g5 := htr.keep T9
          have hp10 : upd H9 pr (.lst (vs ++ [v])) p = some (.lst ([x, y, z].map V.str)) := by
            rw [upd_ne npp]
            exact k69 _ _ hp6 npb
          generalize upd H9 pr (.lst (vs ++ [v])) = H10 at *
          have tsz : tr.size ≤ 9 := by
            have := tr.size_row
            omega
          have tdp : tr.depth < 5 := by
            have := tr.depth_row
            omega
          have tln := turns_len tr
          have vk : (vs ++ [v])[k']? = some v := by
            rw [← lv.trans n1]
            simp
          -- some = turns(pair[step])
          refine ⟨_, rfl, _, rfl, pr, _, _, v, rfl, rfl, SqL.of g1, atI_nat vk, v, tr, rfl, g5, tdp, by omega, fun ps ps' H11 nps hps aps s11 => ?_⟩
          have hb11 := Bag.same hb10 s11
          have npsb : ps ≠ b := hb10.ne nps
          have lps := aps.length
          have lp0 : 0 < tr.turns.length := List.length_pos_iff.mpr (turns_ne tr (by omega))
          -- near.append(some[..])
          refine ⟨_, rfl, Or.inl ⟨rfl, _, SqL.of (s11 _ _ g2)⟩, _, rfl, _, rfl, _, rfl, ps, _, rfl, Or.inl (SqL.of hps), b, _, rfl, by omega, by omega, hb11, fun q H12 q0 q1 hb12 k12 => ?_⟩
          obtain ⟨jq, rfl⟩ := Int.eq_ofNat_of_zero_le q0
          have jl : jq < ps'.length := by omega
          obtain ⟨u, hu, tu⟩ := aps.get (List.getElem?_eq_getElem jl)
          have g1' := k12 _ _ (s11 _ _ g1) npr
          have g2' := k12 _ _ (s11 _ _ g2) nnr
          refine ⟨ps, _, _, _, rfl, rfl, SqL.of (k12 _ _ hps npsb), atI_nat (List.getElem?_eq_getElem jl), nr, _, _, rfl, rfl, g2', small1000 (by omega), ?_⟩
          have T12 := keepT (o := .lst (ws ++ [ps'[jq]])) g2'
          have tt12 : ∀ q xs, H11 q = some (.tup xs) → H12 q = some (.tup xs) := fun q xs e => k12 _ _ e (fun z => by
            obtain ⟨_, _, _, q', _⟩ := hb11
            rw [z, q'] at e
            cases e)
          refine ⟨⟨_, _, _, _, _, _, _, _, _, _, _, _, _, rfl⟩, vs ++ [v], ws ++ [ps'[jq]], ts ++ [tr], us ++ [u], ?_, upd_same, ?_, ?_, ⟨by simp [n1], by simp [n2], ?_⟩, hb12.new nnr, ?_⟩
          · rw [upd_ne npn]
            exact g1'
          · exact TreeAll.save2 T12 (TreeAll.save2 tt12 (TreeAll.same s11 (g3.append ⟨g5, trivial⟩)))
          · exact TreeAll.save2 T12 ((TreeAll.save2 tt12 (TreeAll.same s11 g4)).append ⟨tu.keep tt12, trivial⟩)
          · intro i0 t0 u0 et eu
            by_cases c : i0 < k'
            · rw [List.getElem?_append_left (by omega)] at et eu
              exact n3 i0 t0 u0 et eu
            · have c' : i0 = k' := by
                have := (List.getElem?_eq_some_iff.mp et).1
                rw [List.length_append, List.length_singleton] at this
                omega
              subst c'
              rw [List.getElem?_append_right (by omega), n1, Nat.sub_self] at et
              rw [List.getElem?_append_right (by omega), n2, Nat.sub_self] at eu
              cases et
              cases eu
              refine ⟨List.mem_of_getElem? hu, by omega, fun c hc => ?_⟩
              rw [etr] at hc
              exact c2 c hc
          · exact But.newer hnr4 (k610.trans ((Same.but b s11).trans k12))
        rintro σ H6 ⟨⟨o7, o8, o9, o10, o11, o12, o13, o14, o15, o16, o17, o18, o19, rfl⟩, vs, ws, ts, us, e1, e2, a1, a2, nrs, hb6, k6⟩
        obtain ⟨n1, n2, n3⟩ := nrs
        obtain ⟨t1, tt2, rfl⟩ := two_of n1
        obtain ⟨u1, u2, rfl⟩ := two_of n2
        obtain ⟨v1, v2, rfl⟩ := two_of a1.length
        obtain ⟨w1, w2, rfl⟩ := two_of a2.length
        obtain ⟨m1, l1, c1⟩ := n3 0 t1 u1 rfl rfl
        obtain ⟨m2, l2, c2⟩ := n3 1 tt2 u2 rfl rfl
        obtain ⟨tv1, tv2, _⟩ := a1
        obtain ⟨tw1, tw2, _⟩ := a2
        clear n1 n2 n3
        have sz1 : t1.size ≤ 9 := by
          have := t1.size_row
          omega
        have sz2 : tt2.size ≤ 9 := by
          have := tt2.size_row
          omega
        have su1 := turns_size m1
        have su2 := turns_size m2
        have du1 : u1.depth < 5 := by
          have := u1.depth_row
          have := congrArg List.length (turns_row m1)
          omega
        refine ⟨_, rfl, pr, _, rfl, SqL.of e1, rfl, _, _, rfl, _, _, rfl, rfl, ?_⟩
        have hp6 := k6 _ _ hp4 npb
        refine ⟨_, rfl, _, rfl, (by show 2 ≤ sizeLine; decide), fun q1 g1 => ?_⟩
        have nq1 := hb6.ne g1
        have s67 := Same.new (o := .tup [v1, v2]) g1
        refine ⟨_, rfl, _, rfl, b, 3, rfl, by decide, by decide, hb6.new nq1, fun r H7 r0 r1 hb7 k7 => ?_⟩
        have cs : r = 0 ∨ r = 1 ∨ r = 2 := by omega
        obtain ⟨ar, har⟩ : ∃ c, atI [V.str x, V.str y, V.str z] r = some (.str c) := by
          rcases cs with rfl | rfl | rfl
          · exact ⟨x, rfl⟩
          · exact ⟨y, rfl⟩
          · exact ⟨z, rfl⟩
        refine ⟨p, _, _, _, rfl, rfl, SqL.of (k7 _ _ (s67 _ _ hp6) npb), har, (by show 2 ≤ sizeLine; decide), fun q2 g2 => ⟨q2, _, rfl, SqT.of upd_same, rfl, _, _, rfl, _, _, rfl, rfl, ?_⟩⟩
        have s78 := Same.new (o := .tup [V.ref q1, V.str ar]) g2
        have tt68 : ∀ q xs, H6 q = some (.tup xs) → upd H7 q2 (.tup [.ref q1, .str ar]) q = some (.tup xs) := fun q xs e => s78 _ _ (k7 _ _ (s67 _ _ e) (fun z => by
          obtain ⟨_, _, _, q', _⟩ := hb6
          rw [z, q'] at e
          cases e))
        have hq1 : upd H7 q2 (.tup [.ref q1, .str ar]) q1 = some (.tup [v1, v2]) := s78 _ _ (k7 _ _ upd_same nq1)
        have hb8 : Bag (upd H7 q2 (.tup [.ref q1, .str ar])) b := Bag.same hb7 s78
        have k8 : But b H4 (upd H7 q2 (.tup [.ref q1, .str ar])) := k6.trans ((Same.but b s67).trans (k7.trans (Same.but b s78)))
        have hn8 := s78 _ _ (k7 _ _ (s67 _ _ e2) nnr)
        have hp8 := s78 _ _ (k7 _ _ (s67 _ _ hp6) npb)
        have tv1 := tv1.keep tt68
        have tv2 := tv2.keep tt68
        have tw1 := tw1.keep tt68
        have tw2 := tw2.keep tt68
        clear e1 e2 hb6 k6 hp6 g1 s67 hb7 k7 s78 tt68 k5 hb5 k45
        generalize upd H7 q2 (.tup [.ref q1, .str ar]) = H8 at *
        have tq1 : TreeAt H8 (.ref q1) (.node t1 tt2) := ⟨q1, v1, v2, rfl, hq1, tv1, tv2⟩
        -- for other, due in ..
        refine ⟨fun σ H9 => (∃ (o7 o8 o9 o14 o15 o16 o17 o18 o19 : Option V), σ = [some (.ref a), some (.int (0 + (i : Int))), some (.ref b), some (.ref p), some (.int (0 + (j : Int))), some (.ref pr), some (.ref nr), o7, o8, o9, some v1, some v2, some (.ref q1), some (.str ar), o14, o15, o16, o17, o18, o19]) ∧ Same H8 H9, ?_, ?_⟩
        · refine ⟨_, rfl, nr, _, _, _, rfl, rfl, SqL.of hn8, rfl, _, rfl, (by show 2 ≤ sizeLine; decide), fun x1 f1 => ⟨(by show 2 ≤ sizeLine; decide), fun y1 f1' => ?_⟩⟩
          have sa1 := Same.new (o := .tup [w1, v2]) f1
          have sa2 := Same.new (o := .tup [V.ref x1, V.bl true]) f1'
          have i1 : Item (upd (upd H8 x1 (.tup [w1, v2])) y1 (.tup [.ref x1, .bl true])) (.ref y1) (.node t1 tt2) :=
            ⟨y1, .ref x1, true, .node u1 tt2, rfl, upd_same, ⟨x1, w1, v2, rfl, sa2 _ _ upd_same, tw1.same (sa1.trans sa2), tv2.same (sa1.trans sa2)⟩, by simp only [T.size]; omega, ⟨fun _ => turn_same_r.mpr m1, fun _ => rfl⟩⟩
          have sa := sa1.trans sa2
          clear sa1 sa2 f1 f1'
          generalize upd (upd H8 x1 (.tup [w1, v2])) y1 (.tup [.ref x1, .bl true]) = Ha at *
          refine ⟨_, rfl, _, rfl, nr, _, _, _, rfl, rfl, SqL.of (sa _ _ hn8), rfl, (by show 2 ≤ sizeLine; decide), fun x2 f1 => ⟨(by show 2 ≤ sizeLine; decide), fun y2 f1' => ?_⟩⟩
          have sa1 := Same.new (o := .tup [v1, w2]) f1
          have sa2 := Same.new (o := .tup [V.ref x2, V.bl true]) f1'
          have i2 : Item (upd (upd Ha x2 (.tup [v1, w2])) y2 (.tup [.ref x2, .bl true])) (.ref y2) (.node t1 tt2) :=
            ⟨y2, .ref x2, true, .node t1 u2, rfl, upd_same, ⟨x2, v1, w2, rfl, sa2 _ _ upd_same, (tv1.same sa).same (sa1.trans sa2), (tw2.same sa).same (sa1.trans sa2)⟩, by simp only [T.size]; omega, ⟨fun _ => turn_same_l.mpr m2, fun _ => rfl⟩⟩
          have i1 := i1.same (sa1.trans sa2)
          have sa := sa.trans (sa1.trans sa2)
          clear sa1 sa2 f1 f1'
          generalize upd (upd Ha x2 (.tup [v1, w2])) y2 (.tup [.ref x2, .bl true]) = Hb at *
          refine ⟨_, rfl, nr, _, _, _, rfl, rfl, SqL.of (sa _ _ hn8), rfl, _, rfl, nr, _, _, _, rfl, rfl, SqL.of (sa _ _ hn8), rfl, (by show 2 ≤ sizeLine; decide), fun x3 f1 => ⟨(by show 2 ≤ sizeLine; decide), fun y3 f1' => ⟨(by show 3 ≤ sizeLine; decide), fun LL hLL => ?_⟩⟩⟩
          have sa1 := Same.new (o := .tup [w1, w2]) f1
          have sa2 := Same.new (o := .tup [V.ref x3, V.bl false]) f1'
          have sa3 := Same.new (o := .lst [V.ref y1, V.ref y2, V.ref y3]) hLL
          have i3 : Item (upd (upd (upd Hb x3 (.tup [w1, w2])) y3 (.tup [.ref x3, .bl false])) LL (.lst [V.ref y1, V.ref y2, V.ref y3])) (.ref y3) (.node t1 tt2) :=
            ⟨y3, .ref x3, false, .node u1 u2, rfl, sa3 _ _ upd_same, ⟨x3, w1, w2, rfl, sa3 _ _ (sa2 _ _ upd_same), (tw1.same sa).same (sa1.trans (sa2.trans sa3)), (tw2.same sa).same (sa1.trans (sa2.trans sa3))⟩, by simp only [T.size]; omega,
              ⟨fun z => (by cases z), fun z => absurd z (both_not m1 m2)⟩⟩
          have i1 := i1.same (sa1.trans (sa2.trans sa3))
          have i2 := i2.same (sa1.trans (sa2.trans sa3))
          have sa := sa.trans (sa1.trans (sa2.trans sa3))
          have hL : upd (upd (upd Hb x3 (.tup [w1, w2])) y3 (.tup [.ref x3, .bl false])) LL (.lst [V.ref y1, V.ref y2, V.ref y3]) LL = some (.lst [V.ref y1, V.ref y2, V.ref y3]) := upd_same
          clear sa1 sa2 sa3 f1 f1' hLL
          generalize upd (upd (upd Hb x3 (.tup [w1, w2])) y3 (.tup [.ref x3, .bl false])) LL (.lst [V.ref y1, V.ref y2, V.ref y3]) = HL at *
          refine ⟨_, rfl, ⟨_, SqL.of hL⟩, ?_⟩
          refine for_list (xs := [V.ref y1, V.ref y2, V.ref y3]) (fun m σ H9 => (∃ (o7 o8 o9 o14 o15 o16 o17 o18 o19 : Option V), σ = [some (.ref a), some (.int (0 + (i : Int))), some (.ref b), some (.ref p), some (.int (0 + (j : Int))), some (.ref pr), some (.ref nr), o7, o8, o9, some v1, some v2, some (.ref q1), some (.str ar), o14, o15, o16, o17, o18, o19]) ∧ Same HL H9) ⟨⟨_, _, _, _, _, _, _, _, _, rfl⟩, Same.refl _⟩ (fun m σ H9 _ h => SqL.of (h.2 _ _ hL)) ?_ (fun σ H9 h => ⟨h.1, sa.trans h.2⟩)
          rintro m xx σ H9 hx ⟨⟨o7, o8, o9, o14, o15, o16, o17, o18, o19, rfl⟩, s9⟩
          have it : Item H9 xx (.node t1 tt2) := by
            have mm := List.mem_of_getElem? hx
            simp only [List.mem_cons, List.not_mem_nil, or_false] at mm
            rcases mm with rfl | rfl | rfl
            · exact i1.same s9
            · exact i2.same s9
            · exact i3.same s9
          obtain ⟨bm, ov, dv, oT, rfl, hbm, to, so, iff⟩ := it
          have tq9 := tq1.same (sa.trans s9)
          refine ⟨bm, _, rfl, SqT.of hbm, rfl, _, _, rfl, _, _, rfl, rfl, ?_⟩
          refine ⟨_, rfl, _, rfl, (by show 2 ≤ sizeLine; decide), fun c1 n1 => ⟨_, rfl, _, rfl, (by show 2 ≤ sizeLine; decide), fun c2 n2 => ⟨_, rfl, _, rfl, (by show 2 ≤ sizeLine; decide), fun c3 n3 => ⟨(by show 2 ≤ sizeLine; decide), fun c4 n4 => ⟨_, rfl, _, rfl, (by show 2 ≤ sizeLine; decide), fun c5 n5 => ⟨_, rfl, _, rfl, (by show 2 ≤ sizeLine; decide), fun c6 n6 => ⟨(by show 2 ≤ sizeLine; decide), fun c7 n7 => ⟨(by show 3 ≤ sizeLine; decide), fun SL nS => ?_⟩⟩⟩⟩⟩⟩⟩⟩
          have z1 := Same.new (o := .tup [V.ref q1, ov]) n1
          have z2 := Same.new (o := .tup [V.str ar, V.ref q1]) n2
          have z3 := Same.new (o := .tup [V.str ar, ov]) n3
          have z4 := Same.new (o := .tup [V.ref c2, V.ref c3]) n4
          have z5 := Same.new (o := .tup [V.ref q1, V.str ar]) n5
          have z6 := Same.new (o := .tup [ov, V.str ar]) n6
          have z7 := Same.new (o := .tup [V.ref c5, V.ref c6]) n7
          have z8 := Same.new (o := .lst [V.ref c1, V.ref c4, V.ref c7]) nS
          have y8 := z8
          have y7 := z7.trans y8
          have y6 := z6.trans y7
          have y5 := z5.trans y6
          have y4 := z4.trans y5
          have y3 := z3.trans y4
          have y2 := z2.trans y3
          have y1 := z1.trans y2
          have h1 := y2 _ _ (upd_same (H := H9) (a := c1) (o := .tup [V.ref q1, ov]))
          have h2 := y3 c2 (.tup [V.str ar, V.ref q1]) upd_same
          have h3 := y4 c3 (.tup [V.str ar, ov]) upd_same
          have h4 := y5 c4 (.tup [V.ref c2, V.ref c3]) upd_same
          have h5 := y6 c5 (.tup [V.ref q1, V.str ar]) upd_same
          have h6 := y7 c6 (.tup [ov, V.str ar]) upd_same
          have h7 := y8 c7 (.tup [V.ref c5, V.ref c6]) upd_same
          have h8 : upd _ SL (.lst [V.ref c1, V.ref c4, V.ref c7]) SL = some (.lst [V.ref c1, V.ref c4, V.ref c7]) := upd_same (H := upd (upd (upd (upd (upd (upd (upd H9 c1 (.tup [.ref q1, ov])) c2 (.tup [.str ar, .ref q1])) c3 (.tup [.str ar, ov])) c4 (.tup [.ref c2, .ref c3])) c5 (.tup [.ref q1, .str ar])) c6 (.tup [ov, .str ar])) c7 (.tup [.ref c5, .ref c6]))
          clear z1 z2 z3 z4 z5 z6 z7 z8 y2 y3 y4 y5 y6 y7 y8 n1 n2 n3 n4 n5 n6 n7 nS
          generalize upd (upd (upd (upd (upd (upd (upd (upd H9 c1 (.tup [.ref q1, ov])) c2 (.tup [.str ar, .ref q1])) c3 (.tup [.str ar, ov])) c4 (.tup [.ref c2, .ref c3])) c5 (.tup [.ref q1, .str ar])) c6 (.tup [ov, .str ar])) c7 (.tup [.ref c5, .ref c6])) SL (.lst [V.ref c1, V.ref c4, V.ref c7]) = HS at *
          have tq10 := tq9.same y1
          have to10 := to.same y1
          have szN : (T.node t1 tt2).size ≤ 19 := by
            simp only [T.size]
            omega
          have j1 : Item2 HS (.ref c1) dv := ⟨c1, .ref q1, ov, .node t1 tt2, oT, rfl, h1, tq10, to10, by omega, by omega, iff⟩
          have j4 : Item2 HS (.ref c4) dv := ⟨c4, .ref c2, .ref c3, .node (.leaf ar) (.node t1 tt2), .node (.leaf ar) oT, rfl, h4, ⟨c2, _, _, rfl, h2, rfl, tq10⟩, ⟨c3, _, _, rfl, h3, rfl, to10⟩, by simp only [T.size] at *; omega, by simp only [T.size] at *; omega, iff.trans turn_same_l.symm⟩
          have j7 : Item2 HS (.ref c7) dv := ⟨c7, .ref c5, .ref c6, .node (.node t1 tt2) (.leaf ar), .node oT (.leaf ar), rfl, h7, ⟨c5, _, _, rfl, h5, tq10, rfl⟩, ⟨c6, _, _, rfl, h6, to10, rfl⟩, by simp only [T.size] at *; omega, by simp only [T.size] at *; omega, iff.trans turn_same_r.symm⟩
          refine ⟨_, rfl, _, rfl, ⟨_, SqL.of h8⟩, ?_⟩
          refine for_list (xs := [V.ref c1, V.ref c4, V.ref c7]) (fun m σ Ht => (∃ (o7 o8 o16 o17 o18 o19 : Option V), σ = [some (.ref a), some (.int (0 + (i : Int))), some (.ref b), some (.ref p), some (.int (0 + (j : Int))), some (.ref pr), some (.ref nr), o7, o8, some (.ref SL), some v1, some v2, some (.ref q1), some (.str ar), some ov, some (.bl dv), o16, o17, o18, o19]) ∧ Same HS Ht) ⟨⟨_, _, _, _, _, _, rfl⟩, Same.refl _⟩ (fun m σ Ht _ h => SqL.of (h.2 _ _ h8)) ?_ ?_
          · rintro m' xx σ Ht hx' ⟨⟨o7, o8, o16, o17, o18, o19, rfl⟩, st⟩
            have it : Item2 Ht xx dv := by
              have mm := List.mem_of_getElem? hx'
              simp only [List.mem_cons, List.not_mem_nil, or_false] at mm
              rcases mm with rfl | rfl | rfl
              · exact j1.same st
              · exact j4.same st
              · exact j7.same st
            obtain ⟨bm', wv, pv', wT, pT, rfl, hbm', tw, tp, sw, sp, iff2⟩ := it
            refine ⟨bm', _, rfl, SqT.of hbm', rfl, _, _, rfl, _, _, rfl, rfl, ?_⟩
            refine ⟨_, rfl, _, rfl, wv, pv', wT, pT, rfl, tw, tp, by omega, by omega, fun lp r' Hu nlp hlp er su => ?_⟩
            have er' : r' = dv := by rw [Bool.eq_iff_iff, er, iff2]
            subst er'
            refine ⟨_, rfl, _, rfl, (by show 2 ≤ sizeLine; decide), fun l2 n2' => ?_⟩
            refine ⟨.list [.bool r', .bool r'], .list [.bool r', .bool r'], (DatAt.lst (Same.new n2' _ _ hlp) (.cons (.bl r') (.cons (.bl r') .nil))).dp, (DatAt.lst upd_same (.cons (.bl r') (.cons (.bl r') .nil))).dp, rfl, rfl, _, rfl, ?_⟩
            rw [SeqAt.eqv_refl _ rfl]
            refine iteF ?_
            exact ⟨⟨_, _, _, _, _, _, rfl⟩, st.trans (su.trans (Same.new n2'))⟩
          · rintro σ Ht ⟨⟨o7, o8, o16, o17, o18, o19, rfl⟩, st⟩
            exact ⟨⟨_, _, _, _, _, _, _, _, _, rfl⟩, s9.trans (y1.trans st)⟩
        rintro σ H9 ⟨⟨o7, o8, o9, o14, o15, o16, o17, o18, o19, rfl⟩, s9⟩
        -- for place in ..
        have hn9 := s9 _ _ hn8
        have hp9 := s9 _ _ hp8
        have tw9 := tw1.same s9
        refine ⟨_, rfl, nr, _, _, _, rfl, rfl, SqL.of hn9, rfl, _, rfl, p, _, _, _, rfl, rfl, SqL.of hp9, rfl, w1, u1, 0, z, rfl, tw9, du1, fun q u H10 eq tu s10 => ⟨q, _, _, _, rfl, rfl, SqT.of eq, rfl, _, rfl, ?_, ?_, ?_⟩⟩
        · omega
        · have := u1.row_le
          omega
        have szu := u1.row_le
        have rowu := turns_row m1
        refine for_range (lo := 0) (fun m σ Ht => (∃ (o7 o8 o9 o14 o15 o16 o17 o18 o19 : Option V), σ = [some (.ref a), some (.int (0 + (i : Int))), some (.ref b), some (.ref p), some (.int (0 + (j : Int))), some (.ref pr), some (.ref nr), o7, o8, o9, some v1, some v2, some (.ref q1), some (.str ar), o14, o15, o16, o17, o18, o19]) ∧ Same H9 Ht) ⟨⟨_, _, _, _, _, _, _, _, _, rfl⟩, s10⟩ ?_ ?_
        · rintro m σ Ht hm ⟨⟨o7, o8, o9, o14, o15, o16, o17, o18, o19, rfl⟩, st⟩
          rw [Int.toNat_natCast] at hm
          have hnt := st _ _ hn9
          have hpt := st _ _ hp9
          refine ⟨_, rfl, _, rfl, nr, _, _, _, rfl, rfl, SqL.of hnt, rfl, _, rfl, _, rfl, p, _, _, _, rfl, rfl, SqL.of hpt, rfl, w1, u1, 0 + (m : Int), z, rfl, tw9.same st, du1, fun q' u' H11 eq' tu' s11 => ⟨q', _, _, _, rfl, rfl, SqT.of eq', rfl, v1, u', t1, u1.ren z (0 + (m : Int)), rfl, (tv1.same s9).same (st.trans s11), tu', by omega, by rw [ren_size]; omega, fun lp r' Hu nlp hlp er su => ⟨(by show 2 ≤ sizeLine; decide), fun l2 n2' => ?_⟩⟩⟩
          have zin := ren_mem z u1 (0 + (m : Int)) (by omega) (by omega)
          have zno : z ∉ t1.row := fun h => (c1 z h).elim nzx nzy
          have er' : r' = false := by
            cases r' with
            | false => rfl
            | true => exact absurd (er.mp rfl) (not_turn_of zin zno)
          subst er'
          refine ⟨.list [.bool false, .bool false], .list [.bool false, .bool false], (DatAt.lst (Same.new n2' _ _ hlp) (.cons (.bl false) (.cons (.bl false) .nil))).dp, (DatAt.lst upd_same (.cons (.bl false) (.cons (.bl false) .nil))).dp, rfl, rfl, _, rfl, ?_⟩
          rw [SeqAt.eqv_refl _ rfl]
          refine iteF ?_
          exact ⟨⟨_, _, _, _, _, _, _, _, _, rfl⟩, st.trans (s11.trans (su.trans (Same.new n2')))⟩
        · rintro σ Ht ⟨⟨o7, o8, o9, o14, o15, o16, o17, o18, o19, rfl⟩, st⟩
          exact ⟨⟨_, _, _, _, _, _, _, _, _, _, _, _, _, _, _, _, rfl⟩, Bag.same hb8 (s9.trans st), k4.trans (k8.trans (Same.but b (s9.trans st)))⟩
      rintro σ H4 ⟨⟨o4, o5, o6, o7, o8, o9, o10, o11, o12, o13, o14, o15, o16, o17, o18, o19, rfl⟩, hb4, k4⟩
      have hp4 := k4 _ _ hp3 npb
      refine ⟨_, rfl, p, _, _, _, rfl, rfl, SqL.of hp4, rfl, (by show 1 ≤ sizeLine; decide), fun q1 g1 => ?_⟩
      have nq1 := hb4.ne g1
      have k4q : But b H4 (upd H4 q1 (.tup [V.str x])) := But.new g1
      refine ⟨_, rfl, b, 3, rfl, by decide, by decide, hb4.new nq1, fun r H5 r0 r1 hb5 k5 => ⟨_, _, rfl, rfl, q1, 3 + r, _, rfl, rfl, SqT.of (k5 _ _ upd_same nq1), by simp, by omega, by omega, by simp, fun t ht => ?_⟩⟩
      obtain ⟨m, hm⟩ : ∃ m : Nat, (3 + r).toNat = m := ⟨_, rfl⟩
      have hm2 : 3 ≤ m ∧ m ≤ 5 := by omega
      have er : (List.replicate (3 + r).toNat [V.str x]).flatten = (List.replicate m x).map V.str := by
        rw [hm]
        clear hm hm2
        induction m with
        | zero => rfl
        | succ m ih =>
          rw [List.replicate_succ, List.flatten_cons, ih, List.replicate_succ, List.map_cons]
          rfl
      rw [er]
      have lrow : (List.replicate m x).length = m := List.length_replicate
      have k56 : But b H3 (upd H5 t (.tup ((List.replicate m x).map V.str))) := k4.trans (k4q.trans (k5.trans (But.new ht)))
      have ht6 : upd H5 t (.tup ((List.replicate m x).map V.str)) t = some (.tup ((List.replicate m x).map V.str)) := upd_same
      generalize List.replicate m x = row at *
      generalize upd H5 t (.tup (row.map V.str)) = H6 at *
      refine ⟨_, rfl, t, row, rfl, ht6, by omega, by omega, by decide, fun pl ls H7 nl hl al s7 => ⟨_, rfl, pl, _, rfl, SqL.of hl, fun sl hsl => ⟨_, rfl, ⟨_, SqL.of upd_same⟩, ?_⟩⟩⟩
      have s8 := Same.new (o := .lst (cutV ls none (some 6))) hsl
      refine for_list (xs := cutV ls none (some 6)) (fun m' σ Ht => (∃ (o4 o5 o6 o7 o9 o10 o11 o12 o13 o14 o15 o16 o17 o18 o19 : Option V), σ = [some (.ref a), some (.int (0 + (i : Int))), some (.ref b), some (.ref p), o4, o5, o6, o7, some (.ref t), o9, o10, o11, o12, o13, o14, o15, o16, o17, o18, o19]) ∧ Same (upd H7 sl (.lst (cutV ls none (some 6)))) Ht) ⟨⟨_, _, _, _, _, _, _, _, _, _, _, _, _, _, _, rfl⟩, Same.refl _⟩ (fun m' σ Ht _ h => SqL.of (h.2 _ _ upd_same)) ?_ ?_
      · rintro m' xx σ Ht hx ⟨⟨o4, o5, o6, o7, o9, o10, o11, o12, o13, o14, o15, o16, o17, o18, o19, rfl⟩, st⟩
        obtain ⟨tc, htc, txx⟩ : ∃ tc, tc ∈ treesF 5 row ∧ TreeAt H7 xx tc := by
          have mm := List.mem_of_getElem? hx
          unfold cutV at mm
          obtain ⟨ix, hix⟩ := List.mem_iff_getElem?.mp (List.mem_of_mem_drop (List.mem_of_mem_take mm))
          obtain ⟨tc, h1, h2⟩ := al.get hix
          exact ⟨tc, List.mem_of_getElem? h1, h2⟩
        have rtc := treesF_row 5 row htc
        have ztc : tc.size ≤ 9 := by
          have := tc.size_row
          rw [rtc] at this
          omega
        have s67t : Same H6 Ht := s7.trans (s8.trans st)
        have txt := txx.same (s8.trans st)
        obtain ⟨pp, hpp⟩ : ∃ pp : T → Bool, ∀ x, pp x = true ↔ x ∈ tc.turns := ⟨fun x => @decide _ (Classical.propDecidable _), fun x => @decide_eq_true_iff _ (Classical.propDecidable _)⟩
        have cnt0 := turns_count 5 tc (by rw [rtc]; omega) pp hpp
        rw [rtc] at cnt0
        refine ⟨_, rfl, t, row, rfl, s67t _ _ ht6, by omega, by omega, by decide, fun pl2 ls2 H8 nl2 hl2 al2 s8' => ⟨_, rfl, ⟨_, SqL.of hl2⟩, fun D hD => ?_⟩⟩
        have ll2 := al2.length
        have b14 := treesF_small (n := 5) (row := row) (by decide) (by omega)
        refine lc_list (xs := ls2) (fun n' H9 => ∃ acc : List V, acc.length = (((treesF 5 row).take n').filter pp).length ∧ H9 D = some (.lst acc) ∧ Same H8 H9)
          ⟨[], rfl, upd_same, Same.new hD⟩ (fun n' H9 _ ⟨acc, _, _, e4⟩ => SqL.of (e4 _ _ hl2)) ?_ ?_
        · rintro n' yv H9 hy ⟨acc, e1, e2, e4⟩
          obtain ⟨ty, hty, tyy⟩ := al2.get hy
          have zty : ty.size ≤ 9 := by
            have := ty.size_row
            rw [treesF_row 5 row (List.mem_of_getElem? hty)] at this
            omega
          have lacc : acc.length ≤ 14 := by
            have := List.length_filter_le pp ((treesF 5 row).take n')
            rw [List.length_take] at this
            omega
          have fs : ((treesF 5 row).take (n' + 1)).filter pp = ((treesF 5 row).take n').filter pp ++ [ty].filter pp := by
            rw [List.take_add_one, hty, List.filter_append]
            rfl
          refine ⟨rfl, _, rfl, _, rfl, xx, yv, tc, ty, rfl, txt.same (s8'.trans e4), tyy.same e4, by omega, by omega, fun r' H10 er' s10 => ⟨r', rfl, ?_⟩⟩
          have e2' := s10 _ _ e2
          cases r' with
          | true =>
            refine iteT ?_
            refine ⟨_, rfl, acc, e2', small1000 (by omega), acc ++ [yv], ?_, upd_same, Same.newer hD (e4.trans s10)⟩
            rw [fs, List.length_append, List.length_append, e1, List.filter_cons_of_pos ((hpp ty).mpr (er'.mp rfl))]
            rfl
          | false =>
            refine iteF ?_
            refine ⟨acc, ?_, e2', e4.trans s10⟩
            have no : ¬ pp ty = true := fun h => by
              have := er'.mpr ((hpp ty).mp h)
              cases this
            rw [fs, List.length_append, e1, List.filter_cons_of_neg no]
            rfl
        · rintro H9 ⟨acc, e1, e2, e4⟩
          rw [List.take_of_length_le (by omega), cnt0] at e1
          refine ⟨D, _, rfl, Or.inl (SqL.of e2), ?_⟩
          refine ⟨_, rfl, xx, tc, rfl, txt.same (s8'.trans e4), by omega, fun pt us fs H10 nt ht' at' perm s10 => ⟨pt, _, rfl, Or.inl (SqL.of ht'), rfl, _, rfl, ?_⟩⟩
          have e : acc.length = us.length := by rw [e1, at'.length, perm.length_eq]
          rw [e]
          refine iteNS rfl ?_
          exact ⟨⟨_, _, _, _, _, _, _, _, _, _, _, _, _, _, _, rfl⟩, st.trans (s8'.trans (e4.trans s10))⟩
      · rintro σ Ht ⟨⟨o4, o5, o6, o7, o9, o10, o11, o12, o13, o14, o15, o16, o17, o18, o19, rfl⟩, st⟩
        exact ⟨⟨_, _, _, _, _, _, _, _, _, _, _, _, _, _, _, _, _, _, _, rfl⟩, (Same.thenBut nbH s3 k56).trans (s7.trans (s8.trans st))⟩
    · rintro σ H1 ⟨⟨o1, o2, o3, o4, o5, o6, o7, o8, o9, o10, o11, o12, o13, o14, o15, o16, o17, o18, o19, rfl⟩, s1⟩
      exact k H1
end
end K88
namespace K88
open PySem PySem.Spec PyProof.Rows L2 Vr
theorem all_mk {P : Program} {w : World} {K : PySem.W.Frag} {h : Heap} {mg : Str → Option Value} {fa : Addr} (X : K.In h) (G : h.Ns mainGlobals mg) (hfa : mg "law" = some (.ref fa))
    {fPb : Addr} {odPb anPb : Option Addr} {slPb : Array (Option Value)} {ocPb kVPb dcPb pmPb cdPb ctPb : Value}
    (aPb : PySem.W.nsIn K mainGlobals "_put_back" = some (some (.ref fPb)))
    (lPb : K.lookup fPb = some ⟨ocPb, odPb, .func (PySem.W.fnOf "_put_back" "_put_back" (defArgs sPut) (defBody sPut) (defScope sPut) .none kVPb dcPb pmPb anPb cdPb ctPb), slPb⟩)
    (cPb : PySem.W.codeIn K cdPb "_put_back" = true) (kPb : PySem.W.keepIn K (.ref fPb) = true)
    {fTh : Addr} {odTh anTh : Option Addr} {slTh : Array (Option Value)} {ocTh kVTh dcTh pmTh cdTh ctTh : Value}
    (aTh : PySem.W.nsIn K mainGlobals "_turned_here" = some (some (.ref fTh)))
    (lTh : K.lookup fTh = some ⟨ocTh, odTh, .func (PySem.W.fnOf "_turned_here" "_turned_here" (defArgs sHere) (defBody sHere) (defScope sHere) .none kVTh dcTh pmTh anTh cdTh ctTh), slTh⟩)
    (cTh : PySem.W.codeIn K cdTh "_turned_here" = true) (kTh : PySem.W.keepIn K (.ref fTh) = true)
    {fTd : Addr} {odTd anTd : Option Addr} {slTd : Array (Option Value)} {ocTd kVTd dcTd pmTd cdTd ctTd : Value}
    (aTd : PySem.W.nsIn K mainGlobals "turned" = some (some (.ref fTd)))
    (lTd : K.lookup fTd = some ⟨ocTd, odTd, .func (PySem.W.fnOf "turned" "turned" (defArgs sTurned) (defBody sTurned) (defScope sTurned) .none kVTd dcTd pmTd anTd cdTd ctTd), slTd⟩)
    (cTd : PySem.W.codeIn K cdTd "turned" = true) (kTd : PySem.W.keepIn K (.ref fTd) = true)
    {fPf : Addr} {odPf anPf : Option Addr} {slPf : Array (Option Value)} {ocPf kVPf dcPf pmPf cdPf ctPf : Value}
    (aPf : PySem.W.nsIn K mainGlobals "in_postfix" = some (some (.ref fPf)))
    (lPf : K.lookup fPf = some ⟨ocPf, odPf, .func (PySem.W.fnOf "in_postfix" "in_postfix" (defArgs sPost) (defBody sPost) (defScope sPost) .none kVPf dcPf pmPf anPf cdPf ctPf), slPf⟩)
    (cPf : PySem.W.codeIn K cdPf "in_postfix" = true) (kPf : PySem.W.keepIn K (.ref fPf) = true)
    {fNu : Addr} {odNu anNu : Option Addr} {slNu : Array (Option Value)} {ocNu kVNu dcNu pmNu cdNu ctNu : Value}
    (aNu : PySem.W.nsIn K mainGlobals "_number" = some (some (.ref fNu)))
    (lNu : K.lookup fNu = some ⟨ocNu, odNu, .func (PySem.W.fnOf "_number" "_number" (defArgs sNumber) (defBody sNumber) (defScope sNumber) .none kVNu dcNu pmNu anNu cdNu ctNu), slNu⟩)
    (cNu : PySem.W.codeIn K cdNu "_number" = true) (kNu : PySem.W.keepIn K (.ref fNu) = true)
    {fRi : Addr} {odRi anRi : Option Addr} {slRi : Array (Option Value)} {ocRi kVRi dcRi pmRi cdRi ctRi : Value}
    (aRi : PySem.W.nsIn K mainGlobals "_turns_right" = some (some (.ref fRi)))
    (lRi : K.lookup fRi = some ⟨ocRi, odRi, .func (PySem.W.fnOf "_turns_right" "_turns_right" (defArgs sRight) (defBody sRight) (defScope sRight) .none kVRi dcRi pmRi anRi cdRi ctRi), slRi⟩)
    (cRi : PySem.W.codeIn K cdRi "_turns_right" = true) (kRi : PySem.W.keepIn K (.ref fRi) = true)
    {fIt : Addr} {odIt anIt : Option Addr} {slIt : Array (Option Value)} {ocIt kVIt dcIt pmIt cdIt ctIt : Value}
    (aIt : PySem.W.nsIn K mainGlobals "is_turn" = some (some (.ref fIt)))
    (lIt : K.lookup fIt = some ⟨ocIt, odIt, .func (PySem.W.fnOf "is_turn" "is_turn" (defArgs sIsTurn) (defBody sIsTurn) (defScope sIsTurn) .none kVIt dcIt pmIt anIt cdIt ctIt), slIt⟩)
    (cIt : PySem.W.codeIn K cdIt "is_turn" = true) (kIt : PySem.W.keepIn K (.ref fIt) = true)
    {fBa : Addr} {odBa anBa : Option Addr} {slBa : Array (Option Value)} {ocBa kVBa dcBa pmBa cdBa ctBa : Value}
    (aBa : PySem.W.nsIn K mainGlobals "_law_bag" = some (some (.ref fBa)))
    (lBa : K.lookup fBa = some ⟨ocBa, odBa, .func (PySem.W.fnOf "_law_bag" "_law_bag" (defArgs sBag) (defBody sBag) (defScope sBag) .none kVBa dcBa pmBa anBa cdBa ctBa), slBa⟩)
    (cBa : PySem.W.codeIn K cdBa "_law_bag" = true) (kBa : PySem.W.keepIn K (.ref fBa) = true)
    {fTa : Addr} {odTa anTa : Option Addr} {slTa : Array (Option Value)} {ocTa kVTa dcTa pmTa cdTa ctTa : Value}
    (aTa : PySem.W.nsIn K mainGlobals "_law_take" = some (some (.ref fTa)))
    (lTa : K.lookup fTa = some ⟨ocTa, odTa, .func (PySem.W.fnOf "_law_take" "_law_take" (defArgs sTake) (defBody sTake) (defScope sTake) .none kVTa dcTa pmTa anTa cdTa ctTa), slTa⟩)
    (cTa : PySem.W.codeIn K cdTa "_law_take" = true) (kTa : PySem.W.keepIn K (.ref fTa) = true)
    {fNm : Addr} {odNm anNm : Option Addr} {slNm : Array (Option Value)} {ocNm kVNm dcNm pmNm cdNm ctNm : Value}
    (aNm : PySem.W.nsIn K mainGlobals "_law_names" = some (some (.ref fNm)))
    (lNm : K.lookup fNm = some ⟨ocNm, odNm, .func (PySem.W.fnOf "_law_names" "_law_names" (defArgs sNames) (defBody sNames) (defScope sNames) .none kVNm dcNm pmNm anNm cdNm ctNm), slNm⟩)
    (cNm : PySem.W.codeIn K cdNm "_law_names" = true) (kNm : PySem.W.keepIn K (.ref fNm) = true)
    {fTr : Addr} {odTr anTr : Option Addr} {slTr : Array (Option Value)} {ocTr kVTr dcTr pmTr cdTr ctTr : Value}
    (aTr : PySem.W.nsIn K mainGlobals "_law_tree" = some (some (.ref fTr)))
    (lTr : K.lookup fTr = some ⟨ocTr, odTr, .func (PySem.W.fnOf "_law_tree" "_law_tree" (defArgs sTree) (defBody sTree) (defScope sTree) .none kVTr dcTr pmTr anTr cdTr ctTr), slTr⟩)
    (cTr : PySem.W.codeIn K cdTr "_law_tree" = true) (kTr : PySem.W.keepIn K (.ref fTr) = true)
    {fTs : Addr} {odTs anTs : Option Addr} {slTs : Array (Option Value)} {ocTs kVTs dcTs pmTs cdTs ctTs : Value}
    (aTs : PySem.W.nsIn K mainGlobals "_law_trees" = some (some (.ref fTs)))
    (lTs : K.lookup fTs = some ⟨ocTs, odTs, .func (PySem.W.fnOf "_law_trees" "_law_trees" (defArgs sTrees) (defBody sTrees) (defScope sTrees) .none kVTs dcTs pmTs anTs cdTs ctTs), slTs⟩)
    (cTs : PySem.W.codeIn K cdTs "_law_trees" = true) (kTs : PySem.W.keepIn K (.ref fTs) = true)
    {fTu : Addr} {odTu anTu : Option Addr} {slTu : Array (Option Value)} {ocTu kVTu dcTu pmTu cdTu ctTu : Value}
    (aTu : PySem.W.nsIn K mainGlobals "_law_turns" = some (some (.ref fTu)))
    (lTu : K.lookup fTu = some ⟨ocTu, odTu, .func (PySem.W.fnOf "_law_turns" "_law_turns" (defArgs sTurns) (defBody sTurns) (defScope sTurns) .none kVTu dcTu pmTu anTu cdTu ctTu), slTu⟩)
    (cTu : PySem.W.codeIn K cdTu "_law_turns" = true) (kTu : PySem.W.keepIn K (.ref fTu) = true)
    {fRe : Addr} {odRe anRe : Option Addr} {slRe : Array (Option Value)} {ocRe kVRe dcRe pmRe cdRe ctRe : Value}
    (aRe : PySem.W.nsIn K mainGlobals "_law_renamed" = some (some (.ref fRe)))
    (lRe : K.lookup fRe = some ⟨ocRe, odRe, .func (PySem.W.fnOf "_law_renamed" "_law_renamed" (defArgs sRen) (defBody sRen) (defScope sRen) .none kVRe dcRe pmRe anRe cdRe ctRe), slRe⟩)
    (cRe : PySem.W.codeIn K cdRe "_law_renamed" = true) (kRe : PySem.W.keepIn K (.ref fRe) = true)
    {fBo : Addr} {odBo anBo : Option Addr} {slBo : Array (Option Value)} {ocBo kVBo dcBo pmBo cdBo ctBo : Value}
    (aBo : PySem.W.nsIn K mainGlobals "_law_both" = some (some (.ref fBo)))
    (lBo : K.lookup fBo = some ⟨ocBo, odBo, .func (PySem.W.fnOf "_law_both" "_law_both" (defArgs sBoth) (defBody sBoth) (defScope sBoth) .none kVBo dcBo pmBo anBo cdBo ctBo), slBo⟩)
    (cBo : PySem.W.codeIn K cdBo "_law_both" = true) (kBo : PySem.W.keepIn K (.ref fBo) = true)
    {fLa : Addr} {odLa anLa : Option Addr} {slLa : Array (Option Value)} {ocLa kVLa dcLa pmLa cdLa ctLa : Value}
    (aLa : PySem.W.nsIn K mainGlobals "law" = some (some (.ref fLa)))
    (lLa : K.lookup fLa = some ⟨ocLa, odLa, .func (PySem.W.fnOf "law" "law" (defArgs sLaw) (defBody sLaw) (defScope sLaw) .none kVLa dcLa pmLa anLa cdLa ctLa), slLa⟩)
    (cLa : PySem.W.codeIn K cdLa "law" = true) (kLa : PySem.W.keepIn K (.ref fLa) = true)
    (z_len : PySem.W.nsIn K mainGlobals "len" = some none)
    (z_range : PySem.W.nsIn K mainGlobals "range" = some none)
    (z_max : PySem.W.nsIn K mainGlobals "max" = some none)
    (z_min : PySem.W.nsIn K mainGlobals "min" = some none)
    (z_isinstance : PySem.W.nsIn K mainGlobals "isinstance" = some none)
    (z_tuple : PySem.W.nsIn K mainGlobals "tuple" = some none)
    (z_str : PySem.W.nsIn K mainGlobals "str" = some none)
    (z_abs : PySem.W.nsIn K mainGlobals "abs" = some none)
    (z_int : PySem.W.nsIn K mainGlobals "int" = some none)
    (z_sorted : PySem.W.nsIn K mainGlobals "sorted" = some none)
    (z_list : PySem.W.nsIn K mainGlobals "list" = some none) :
    ∃ fd : FuncData, (∀ (s : Shared) (u : Value), BindsTo s fd ⟨[u], []⟩ [("_law_script", u)]) ∧
      ∀ base : Heap, K.In base → base.Ns mainGlobals mg → GOk P w K mg base CX0 7 fa fd ["_law_script"] (spLaw K) := by
  have e := hfa.symm.trans (PySem.W.mg_of X G aLa)
  cases e
  have FPb := fun_mk (st := sPut) lPb cPb kPb
  have bPb := FPb.binds (ps := ["part", "way"]) fun _ _ _ _ _ _ us hl => match us, hl with | [_, _], _ => rfl
  have mPb := PySem.W.mg_of X G aPb
  have FTh := fun_mk (st := sHere) lTh cTh kTh
  have bTh := FTh.binds (ps := ["left", "right"]) fun _ _ _ _ _ _ us hl => match us, hl with | [_, _], _ => rfl
  have mTh := PySem.W.mg_of X G aTh
  have FTd := fun_mk (st := sTurned) lTd cTd kTd
  have bTd := FTd.binds (ps := ["tree"]) fun _ _ _ _ _ _ us hl => match us, hl with | [_], _ => rfl
  have mTd := PySem.W.mg_of X G aTd
  have FPf := fun_mk (st := sPost) lPf cPf kPf
  have bPf := FPf.binds (ps := ["tree"]) fun _ _ _ _ _ _ us hl => match us, hl with | [_], _ => rfl
  have mPf := PySem.W.mg_of X G aPf
  have FNu := fun_mk (st := sNumber) lNu cNu kNu
  have bNu := FNu.binds (ps := ["tree", "numbers"]) fun _ _ _ _ _ _ us hl => match us, hl with | [_, _], _ => rfl
  have mNu := PySem.W.mg_of X G aNu
  have FRi := fun_mk (st := sRight) lRi cRi kRi
  have bRi := FRi.binds (ps := ["parts", "first", "second"]) fun _ _ _ _ _ _ us hl => match us, hl with | [_, _, _], _ => rfl
  have mRi := PySem.W.mg_of X G aRi
  have FIt := fun_mk (st := sIsTurn) lIt cIt kIt
  have bIt := FIt.binds (ps := ["tree", "other"]) fun _ _ _ _ _ _ us hl => match us, hl with | [_, _], _ => rfl
  have mIt := PySem.W.mg_of X G aIt
  have FBa := fun_mk (st := sBag) lBa cBa kBa
  have bBa := FBa.binds (ps := ["_law_script", "_law_at"]) fun _ _ _ _ _ _ us hl => match us, hl with | [_, _], _ => rfl
  have mBa := PySem.W.mg_of X G aBa
  have FTa := fun_mk (st := sTake) lTa cTa kTa
  have bTa := FTa.binds (ps := ["_law_bag_here", "_law_many"]) fun _ _ _ _ _ _ us hl => match us, hl with | [_, _], _ => rfl
  have mTa := PySem.W.mg_of X G aTa
  have FNm := fun_mk (st := sNames) lNm cNm kNm
  have bNm := FNm.binds (ps := ["_law_bag_here", "_law_many"]) fun _ _ _ _ _ _ us hl => match us, hl with | [_, _], _ => rfl
  have mNm := PySem.W.mg_of X G aNm
  have FTr := fun_mk (st := sTree) lTr cTr kTr
  have bTr := FTr.binds (ps := ["_law_bag_here", "_law_row"]) fun _ _ _ _ _ _ us hl => match us, hl with | [_, _], _ => rfl
  have mTr := PySem.W.mg_of X G aTr
  have FTs := fun_mk (st := sTrees) lTs cTs kTs
  have bTs := FTs.binds (ps := ["_law_row"]) fun _ _ _ _ _ _ us hl => match us, hl with | [_], _ => rfl
  have mTs := PySem.W.mg_of X G aTs
  have FTu := fun_mk (st := sTurns) lTu cTu kTu
  have bTu := FTu.binds (ps := ["_law_tree_here"]) fun _ _ _ _ _ _ us hl => match us, hl with | [_], _ => rfl
  have mTu := PySem.W.mg_of X G aTu
  have FRe := fun_mk (st := sRen) lRe cRe kRe
  have bRe := FRe.binds (ps := ["_law_tree_here", "_law_place", "_law_name"]) fun _ _ _ _ _ _ us hl => match us, hl with | [_, _, _], _ => rfl
  have mRe := PySem.W.mg_of X G aRe
  have FBo := fun_mk (st := sBoth) lBo cBo kBo
  have bBo := FBo.binds (ps := ["_law_tree_here", "_law_other"]) fun _ _ _ _ _ _ us hl => match us, hl with | [_, _], _ => rfl
  have mBo := PySem.W.mg_of X G aBo
  have FLa := fun_mk (st := sLaw) lLa cLa kLa
  have g_len := PySem.W.mg_none_of X G z_len
  have g_range := PySem.W.mg_none_of X G z_range
  have g_max := PySem.W.mg_none_of X G z_max
  have g_min := PySem.W.mg_none_of X G z_min
  have g_isinstance := PySem.W.mg_none_of X G z_isinstance
  have g_tuple := PySem.W.mg_none_of X G z_tuple
  have g_str := PySem.W.mg_none_of X G z_str
  have g_abs := PySem.W.mg_none_of X G z_abs
  have g_int := PySem.W.mg_none_of X G z_int
  have g_sorted := PySem.W.mg_none_of X G z_sorted
  have g_list := PySem.W.mg_none_of X G z_list
  refine ⟨PySem.W.fnOf "law" "law" (defArgs sLaw) (defBody sLaw) (defScope sLaw) .none kVLa dcLa pmLa anLa cdLa ctLa, fun s u => .of_eq rfl, fun base _ _ => ?_⟩
  have GT := ok_take (P := P) (w := w) (mg := mg) (base := base) FTa
  have GB := ok_bag (P := P) (w := w) (mg := mg) (base := base) FBa g_len g_abs g_int
  have GN := ok_names (P := P) (w := w) (mg := mg) (base := base) FNm GT bTa mTa kTa g_range g_sorted
  have GTr := ok_tree (P := P) (w := w) (mg := mg) (base := base) FTr bTr mTr GT bTa mTa kTa g_len 5
  have GPb := ok_put (P := P) (w := w) (mg := mg) (base := base) FPb
  have GTh := ok_here (P := P) (w := w) (mg := mg) (base := base) FTh g_isinstance g_tuple
  have GTd := ok_turned (P := P) (w := w) (mg := mg) (base := base) FTd GTh bTh mTh kTh GPb bPb mPb kPb g_isinstance g_str
  have GPf := ok_post (P := P) (w := w) (mg := mg) (base := base) FPf g_isinstance g_str
  have GNu := ok_number (P := P) (w := w) (mg := mg) (base := base) FNu GPf bPf mPf kPf g_len
  have GRi := ok_right (P := P) (w := w) (mg := mg) (base := base) FRi g_isinstance g_str
  have GIt := ok_isturn (P := P) (w := w) (mg := mg) (base := base) FIt GNu bNu mNu kNu GRi bRi mRi kRi g_isinstance g_str g_list
  have GTs := ok_trees (P := P) (w := w) (mg := mg) (base := base) FTs bTs mTs g_len g_range 5
  have GTu := ok_turns (P := P) (w := w) (mg := mg) (base := base) FTu bTu mTu g_isinstance g_tuple 5
  have GRe := ok_ren (P := P) (w := w) (mg := mg) (base := base) FRe bRe mRe g_isinstance g_tuple 5
  have GBo := ok_both (P := P) (w := w) (mg := mg) (base := base) FBo GIt bIt mIt kIt
  exact GOk.of (ok_law FLa ⟨⟨_, _, _, _, _, _, _, _, _, _, _, _, _, _, _, _, _, _, _, _, GT, GB, GN, GTr, GTs, GTu, GRe, GBo, GIt, GTd, ⟨bTa, mTa, kTa⟩, ⟨bBa, mBa, kBa⟩, ⟨bNm, mNm, kNm⟩, ⟨bTr, mTr, kTr⟩, ⟨bTs, mTs, kTs⟩, ⟨bTu, mTu, kTu⟩, ⟨bRe, mRe, kRe⟩, ⟨bBo, mBo, kBo⟩, ⟨bIt, mIt, kIt⟩, ⟨bTd, mTd, kTd⟩⟩,
    g_len, g_range, g_max, g_min, g_tuple⟩)
end K88
open PySem PySem.W PyProof.Rows
set_option maxRecDepth 100000 in
set_option maxHeartbeats 0 in
theorem PySem.Challenge.cw_eitherside_k88_turns_and_the_same_elsewh_holds : PySem.Challenge.rw_eitherside_k88_turns_and_the_same_elsewh.Holds := by
  w_on; o_law; k_head; (case hw => w_witness2)
  k_fill
  refine Vr.end_of (l := PySem.Challenge.rw_eitherside_k88_turns_and_the_same_elsewh) (n := 63) (k := 7) (x := "_law_script") (sp := K88.spLaw) rfl (by decide) rfl ⟨rfl, by decide, by decide⟩ (fun w h Y => PySem.W.kIn_of Y) ?F (fun K H a ns hl _ hS => ⟨a, ns, rfl, hS, hl, fun _ => rfl⟩)
  case F =>
    intro w mg fa h KX G hmg
    refine' K88.all_mk KX G hmg ?aPb ?lPb ?cPb ?kPb ?aTh ?lTh ?cTh ?kTh ?aTd ?lTd ?cTd ?kTd ?aPf ?lPf ?cPf ?kPf ?aNu ?lNu ?cNu ?kNu ?aRi ?lRi ?cRi ?kRi ?aIt ?lIt ?cIt ?kIt ?aBa ?lBa ?cBa ?kBa ?aTa ?lTa ?cTa ?kTa ?aNm ?lNm ?cNm ?kNm ?aTr ?lTr ?cTr ?kTr ?aTs ?lTs ?cTs ?kTs ?aTu ?lTu ?cTu ?kTu ?aRe ?lRe ?cRe ?kRe ?aBo ?lBo ?cBo ?kBo ?aLa ?lLa ?cLa ?kLa ?z_len ?z_range ?z_max ?z_min ?z_isinstance ?z_tuple ?z_str ?z_abs ?z_int ?z_sorted ?z_list
    (case aPb => k_is)
    (case lPb => k_is)
    (case cPb => k_is)
    (case kPb => k_is)
    (case aTh => k_is)
    (case lTh => k_is)
    (case cTh => k_is)
    (case kTh => k_is)
    (case aTd => k_is)
    (case lTd => k_is)
    (case cTd => k_is)
    (case kTd => k_is)
    (case aPf => k_is)
    (case lPf => k_is)
    (case cPf => k_is)
    (case kPf => k_is)
    (case aNu => k_is)
    (case lNu => k_is)
    (case cNu => k_is)
    (case kNu => k_is)
    (case aRi => k_is)
    (case lRi => k_is)
    (case cRi => k_is)
    (case kRi => k_is)
    (case aIt => k_is)
    (case lIt => k_is)
    (case cIt => k_is)
    (case kIt => k_is)
    (case aBa => k_is)
    (case lBa => k_is)
    (case cBa => k_is)
    (case kBa => k_is)
    (case aTa => k_is)
    (case lTa => k_is)
    (case cTa => k_is)
    (case kTa => k_is)
    (case aNm => k_is)
    (case lNm => k_is)
    (case cNm => k_is)
    (case kNm => k_is)
    (case aTr => k_is)
    (case lTr => k_is)
    (case cTr => k_is)
    (case kTr => k_is)
    (case aTs => k_is)
    (case lTs => k_is)
    (case cTs => k_is)
    (case kTs => k_is)
    (case aTu => k_is)
    (case lTu => k_is)
    (case cTu => k_is)
    (case kTu => k_is)
    (case aRe => k_is)
    (case lRe => k_is)
    (case cRe => k_is)
    (case kRe => k_is)
    (case aBo => k_is)
    (case lBo => k_is)
    (case cBo => k_is)
    (case kBo => k_is)
    (case aLa => k_is)
    (case lLa => k_is)
    (case cLa => k_is)
    (case kLa => k_is)
    (case z_len => k_is)
    (case z_range => k_is)
    (case z_max => k_is)
    (case z_min => k_is)
    (case z_isinstance => k_is)
    (case z_tuple => k_is)
    (case z_str => k_is)
    (case z_abs => k_is)
    (case z_int => k_is)
    (case z_sorted => k_is)
    (case z_list => k_is)
