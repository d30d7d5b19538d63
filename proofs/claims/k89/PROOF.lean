import PyProof.Rows.All
import Wide.All
import OpenK.AllK
import Wide.FinOn
import HandS.ForMost
import HandS.IsInst
import HandS.Style
import PyProof.ReprRoads
import HandS.Walk
import HandS.TupLe
import PyProof.StrLawsRepr
import HandS.FStrTup
import KE.GoesEnum
import HandS.Dict
import HandS.Defaults
import OpenK.KMeth
import PyProof.ReprLen
import HandS.SlotsOwn
import HandS.Star
import KE.KCallOwn
import OpenK.KOps
import HandS.DictComp
import HandS.Iter
import HandS.DictEq
import HandS.TupLen
import HandS.Small
import HandS.Sort
import HandS.DictTup
import KE.KDictCopyH
import HandS.Codes
import KE.KExcInit
import KE.KExcSuper
import KE.KSuper
import PyProof.ExcClass
import KE.KExcMake
import HandS.ExcField
import HandS.ExcOwn
import HandS.ExcInit
import HandS.ExcValue
import PyProof.Rows.Own
import HandS.ExcIs
import HandS.WordsExc
import HandS.RaiseMore
import PySem.Challenge.RW_eitherside_k89_odd_leaves_deep_down
set_option Elab.async false
set_option linter.all false
set_option maxRecDepth 100000
set_option maxHeartbeats 8000000
/-! repr of data, where no repr is under way around the def: the promise of a def is asked only at such arounds. -/
namespace Vr
open PySem PySem.Spec PyProof.Rows L2
section
variable {X : Cx}
/-- repr(x), x any data without dicts -/
def rReprD (K : PySem.W.Frag) : List V → Hp → VK → Prop := fun xs H Q =>
  ∃ (x : V) (d : PyData), xs = [x] ∧ Dp K H x d ∧ SeqAt.shaped d = true ∧ d.showable = true ∧ d.shown.length ≤ sizeLine ∧ Q (.str d.shown) H
theorem call_reprD {k : Nat} (hg : X.A.guards = some []) (hr : Room k X.A) : CallR X (.builtin "repr") (rReprD X.K) := by
  intro pins s σ H xs us Q I r h
  obtain ⟨x, d, rfl, hd, hs, hw, hz, q⟩ := h
  obtain ⟨u, rfl, ru⟩ := vals1 r
  have nd : d.hasDict = false := PyData.hasDict_of_canLay d (SeqAt.canLay_of_shaped hs)
  have dd := SeqAt.depth_of_shaped hs
  have un := hr.un
  cases hd with
  | non =>
    cases (show u = Value.none from ru)
    exact PySem.P.repr_of_none ⟨.str _, H, I.tok _, ⟨_, rfl⟩, q⟩
  | bl b =>
    cases (show u = Value.bool b from ru)
    exact PySem.P.repr_of_bool ⟨.str _, H, I.tok _, ⟨_, rfl⟩, q⟩
  | int i =>
    obtain ⟨t, e⟩ := (show ∃ t, u = Value.int i t from ru)
    subst e
    exact PySem.P.repr_of_int (by simpa [PyData.showable] using hw) ⟨.str _, H, I.tok _, ⟨_, rfl⟩, q⟩
  | str y =>
    obtain ⟨t, e⟩ := (show ∃ t, u = Value.str y t from ru)
    subst e
    exact PySem.P.repr_of_str ⟨.str _, H, I.tok _, ⟨_, rfl⟩, q⟩ hz
  | @lst a ys ds h1 h2 =>
    cases (show u = Value.ref a from ru)
    obtain ⟨as, rd⟩ := Dp.reads I _ _ _ (Dp.lst h1 h2) (show RelV (.ref a) (.ref a) from rfl)
    refine repr_of_reads' rd hw (fun z => ?_) hg (by omega) (fun _ _ e => e) (fun h' t tk hk => ?_) hz
    · rw [nd] at z
      cases z
    · exact ⟨.str _, H, I.kept hk, ⟨t, rfl⟩, q⟩
  | @tup a ys ds h1 h2 =>
    cases (show u = Value.ref a from ru)
    obtain ⟨as, rd⟩ := Dp.reads I _ _ _ (Dp.tup h1 h2) (show RelV (.ref a) (.ref a) from rfl)
    refine repr_of_reads' rd hw (fun z => ?_) hg (by omega) (fun _ _ e => e) (fun h' t tk hk => ?_) hz
    · rw [nd] at z
      cases z
    · exact ⟨.str _, H, I.kept hk, ⟨t, rfl⟩, q⟩
end

/-- a def's promise, asked only where no repr is under way -/
structure GOk (P : Program) (w : World) (K : PySem.W.Frag) (mg : Str → Option Value)
    (base : Heap) (CX : CXT) (k : Nat) (f : Addr) (fd : FuncData) (ps : List Str) (sp : Sp) : Prop where
  len : ∀ vs H Q E, sp vs H Q E → vs.length = ps.length
  run : ∀ (A : Around) (outer : List Env) (s : Shared) (H : Hp) (args : Args) (us : List Value) (vs : List V) (Q : VK) (E : XK),
    A.guards = some [] → Room k A → Env0 P w K mg base A outer s H → BindsTo s fd args (ps.zip us) → Vals vs us → sp vs H Q E →
      codeAny (model P w) A (.call (.ref f) args) (CR CX outer P w H s Q E) s

section
variable {P : Program} {w : World} {K : PySem.W.Frag} {mg : Str → Option Value} {base : Heap} {CX : CXT} {k : Nat}
theorem GOk.of {f : Addr} {fd : FuncData} {ps : List Str} {sp : Sp} (F : FnOk P w K mg base CX k f fd ps sp) : GOk P w K mg base CX k f fd ps sp :=
  { len := F.len, run := fun A outer s H args us vs Q E _ => F.run A outer s H args us vs Q E }

/-- the body's derivation may use that no repr is under way -/
theorem gok_of {f : Addr} {name qual : Str} {params : Arguments} {body : List Stmt} {scope : Scope} {dV kV doc pm cdv ct oc : Value} {an od : Option Addr}
    {osl : Array (Option Value)} {N ps : List Str} {sp : Sp}
    (lk : K.lookup f = some ⟨oc, od, .func (PySem.W.fnOf name qual params body scope dV kV doc pm an cdv ct), osl⟩)
    (hcd : PySem.W.codeIn K cdv qual = true) (S : FnScope N ps scope) (len : ∀ vs H Q E, sp vs H Q E → vs.length = ps.length)
    (hbody : ∀ (A : Around) (outer : List Env) (s : Shared) (H : Hp) (vs : List V) (Q : VK) (E : XK), A.guards = some [] →
      Room k (A.deeper (envOfC qual scope s.heap.objs.size f cdv)) → sp vs H Q E →
      ∃ t, PSs (cxOf CX P w K mg base N qual scope f cdv A outer s H E) body t ∧ t { nx := fun _ H' => Q .non H', rt := Q } (start N vs) H) :
    GOk P w K mg base CX (k + 1) f (PySem.W.fnOf name qual params body scope dV kV doc pm an cdv ct) ps sp where
  len := len
  run := by
    intro A outer s H args us vs Q E gA room e0 bind rel prom
    have lenV := len vs H Q E prom
    have old : ∀ b o, base.get? b = some o → s.heap.get? b = some o := fun b o e => (e0.bs b o e).1
    have inK : K.In s.heap := e0.mod.kin.keeps old
    have nolim : s.heap.NoLimit := e0.mod.nolimit.keeps old
    refine codeAny_call_function room.depth (inK f _ lk) rfl S.co S.gen rfl (PySem.W.codeRec_of inK hcd) (bind _ _ _ _ ?_)
    refine wpAny_newFunctionEnv_cells S.kind ?_ ?_
    · intro ⟨n, v⟩ mem
      cases S.par n (List.of_mem_zip mem).1 with
      | inl q => exact Or.inl q
      | inr q => exact Or.inr ⟨q, PySem.W.cellsFrom_some _ _ _ (Or.inl q)⟩
    · intro env eenv s1 inCall
      cases eenv
      refine ⟨nolim.keeps inCall.toInCall.keep, codeAny_func ?_⟩
      obtain ⟨t, der, rd⟩ := hbody A outer s H vs Q E gA (room.deeper _) prom
      have start0 := inv_start (CX := CX) (E := E) S room.hd e0 lenV rel inCall
      refine wpAny_mono (der.run [] s1 (start N vs) H _ start0 rd) ?_ (fun _ _ x => x)
      intro flow s' done
      cases flow with
      | ret u =>
        obtain ⟨v, σ', H', J, rv, q⟩ := done
        exact ⟨v, H', J.os, J.bare, J.base, J.hok, rv, q⟩
      | next =>
        obtain ⟨σ', H', J, q⟩ := done
        exact ⟨V.non, H', J.os, J.bare, J.base, J.hok, rfl, q⟩
      | brk =>
        obtain ⟨_, _, _, q⟩ := done
        exact q.elim
      | cont =>
        obtain ⟨_, _, _, q⟩ := done
        exact q.elim
end
end Vr
namespace Vr
open PySem PySem.Spec PyProof.Rows L2
/-- the row's end, from a promise of the law's def that is asked where no repr is under way -/
theorem end_of {l : PySem.W.OpenLaw} {n k : Nat} {q : Program} {loose : List Str} {XP : (Str → Option Value) → Heap → Prop}
    {YP : World → Heap → Prop} {d : DefRec} {K : Params → PySem.W.Frag} {sp : PySem.W.Frag → Sp} {x : Str}
    (hn : l.most = some n) (small : n ≤ sizeLine) (nod : d.params.defaults = []) (room : Room k callerA)
    (inK : ∀ (w : World) (h : Heap), YP w h → (K w.params).In h)
    (F : ∀ (w : World) (mg : Str → Option Value) (fa : Addr) (h : Heap), (K w.params).In h → h.Ns mainGlobals mg → mg d.name = some (.ref fa) →
      ∃ fd : FuncData, (∀ (s : Shared) (u : Value), BindsTo s fd ⟨[u], []⟩ [(x, u)]) ∧
        ∀ base : Heap, (K w.params).In base → base.Ns mainGlobals mg → GOk l.prog w (K w.params) mg base CX0 k fa fd [x] (sp (K w.params)))
    (prom : ∀ (K : PySem.W.Frag) (H : Hp) (a : Addr) (ns : List Int), ns.length ≤ n → Only H → SqL K H a (ns.map V.int) →
      sp K [.ref a] H (fun v _ => v = .bl true) fun _ _ _ => False) :
    PySem.W.WalkO q loose XP YP l.row.toRowW d [] (fun f vs => PySem.call f vs) := by
  refine Att.attach_call hn nod ?_
  intro w s₀ s₁ mg mb fa o pm cd doc a vs ns G Y ho hd hcd hmg hobj hints hlen gens
  have KX := inK w _ Y
  obtain ⟨fd, hb, hF⟩ := F w mg fa _ KX G.T.g hmg
  have rel : Vals (ns.map V.int) vs := vals_ints hints
  have len2 : (ns.map V.int).length ≤ sizeLine := by
    rw [List.length_map]
    exact Nat.le_trans hlen small
  generalize hU : (HO.frz { cls := .type "list", data := .seq vs.toArray } (.lst (ns.map V.int))) = U
  obtain ⟨H, hH⟩ : ∃ H : Hp, ∀ b, H b = if b = a ∧ (K w.params).lookup a = none then some U else none := ⟨_, fun _ => rfl⟩
  have tr : ∀ b u, H b = some u → b = a ∧ (K w.params).lookup a = none ∧ u = U := by
    intro b u e
    rw [hH] at e
    by_cases c : b = a ∧ (K w.params).lookup a = none
    · rw [if_pos c] at e
      cases e
      exact ⟨c.1, c.2, rfl⟩
    · rw [if_neg c] at e
      cases e
  have untr : ∀ b, (H b = none → False) → b = a ∧ (K w.params).lookup a = none := by
    intro b z
    cases e : H b with
    | none => exact (z e).elim
    | some u => exact ⟨(tr b u e).1, (tr b u e).2.1⟩
  have hok : HOk l.prog w H s₁.heap := by
    intro b u e
    obtain ⟨rfl, _, rfl⟩ := tr b u e
    rw [← hU]
    exact ⟨hobj, len2, vs, _, rel, hobj⟩
  have only : Only H := by
    intro b
    cases e : H b with
    | none => exact Or.inl rfl
    | some u =>
      have e2 := (tr b u e).2.2
      rw [← hU] at e2
      exact Or.inr ⟨_, _, congrArg some e2⟩
  have here : SqL (K w.params) H a (ns.map V.int) := by
    cases e : (K w.params).lookup a with
    | none =>
      have e2 := hH a
      rw [if_pos ⟨rfl, e⟩, ← hU] at e2
      exact Or.inl (Or.inr ⟨_, e2⟩)
    | some o' =>
      have e2 := KX a o' e
      rw [hobj] at e2
      cases e2
      refine Or.inr ⟨_, vs.toArray, _, e, rfl, rfl, rfl, ?_, by simpa using rel⟩
      rw [List.size_toArray, hints.length]
      exact Nat.le_trans hlen small
  have bget : ∀ (b : Addr) (u : Obj), s₁.heap.get? b = some u → H b = none → (hidT s₁.heap H).get? b = some u := fun b u e z => hidT_get e z
  have bns : ∀ (b : Addr) (m : Str → Option Value), s₁.heap.Ns b m → (hidT s₁.heap H).Ns b m := by
    intro b m ⟨u, es, ep, e, hd2, rest⟩
    refine ⟨u, es, ep, bget b u e (Classical.byContradiction fun z => ?_), hd2, rest⟩
    obtain ⟨rfl, _⟩ := untr b z
    rw [hobj] at e
    cases e
    cases (show Data.seq vs.toArray _ = Data.dict es ep from hd2)
  have bK : (K w.params).In (hidT s₁.heap H) := by
    intro b u e
    refine bget b u (KX b u e) (Classical.byContradiction fun z => ?_)
    obtain ⟨rfl, z2⟩ := untr b z
    rw [z2] at e
    cases e
  have md : L2.Mod (K w.params) mg (hidT s₁.heap H) := by
    obtain ⟨mc, c1, c2⟩ := G.T.nolimit
    exact ⟨bK, bns _ _ G.T.g, ⟨mb, bns _ _ G.T.b, G.T.builtins⟩, ⟨mc, bns _ _ c1, c2⟩⟩
  have e0 : Env0 l.prog w (K w.params) mg (hidT s₁.heap H) callerA [] s₁ H :=
    { frames := rfl, mod := md, bs := fun b u e => of_hidT e, bsz := Nat.le_of_eq (hidT_size _ _), funs := trivial
      frf := fun b z => absurd (show b ∈ ([] : List Addr) from z) List.not_mem_nil, hok := hok, bare := AllBare.of_eq gens }
  refine codeAny_mono ((hF _ bK (bns _ _ G.T.g)).run callerA [] s₁ H ⟨[.ref a], []⟩ [.ref a] [.ref a] _ _ rfl room e0 (hb s₁ (.ref a)) (.cons rfl .nil)
    (prom _ H a ns hlen only here)) ?_
  intro r s' fin
  match r, fin with
  | .ok (.ret u), ⟨v, H', os, bare, un, hok', rv, e⟩ =>
    cases (show v = V.bl true from e)
    cases (show u = Value.bool true from rv)
    refine ⟨rfl, OldK.of_keep ?_, os, bare⟩
    intro b ob e1
    cases e2 : H b with
    | none => exact un.keep b ob e1 e2 (fun z => absurd (show b ∈ ([] : List Addr) from z) List.not_mem_nil) List.not_mem_nil
    | some t =>
      have e3 := e2
      rw [(tr b t e2).2.2, ← hU] at e3
      obtain ⟨g1, _⟩ := hok b _ e3
      obtain ⟨g2, _⟩ := hok' b _ (un.frzs b _ _ e3)
      rw [e1] at g1
      cases g1
      exact g2
end Vr
namespace Vr
open PySem PySem.Spec PyProof.Rows L2
section
open Builtin Builtin.List PySem.AutoSeq1
set_option maxRecDepth 8000
/-- xs.extend(t), t a tuple object of any further make -/
theorem meets_extT (l : Addr) (items : Array Value) (n : Nat) (b : Addr) (items2 : Array Value) (n2 : Nat) (dct : Option Addr) (sl : Array (Option Value))
    (long : ¬(!items.isEmpty && Builtin.List.listTooLong (items.size + items2.size)) = true)
    (s1 : items.size ≤ sizeLine) (s2 : items.size + items2.size ≤ sizeLine + 1) :
    Meets (Builtin.«list.extend» ⟨[.ref l, .ref b], []⟩) (fun _ R s =>
      s.heap.get? l = some { cls := .type "list", dict := none, data := .seq items n, slots := #[] } ∧
      s.heap.get? b = some { cls := .type "tuple", dict := dct, data := .seq items2 n2, slots := sl } ∧
      R (.ok (.ret Value.none)) { s with heap := s.heap.update l (Obj.mapSeq fun x => x ++ items2), toks := s.toks }) :=
  .of_wp fun prog w A R s h => by
    obtain ⟨hp, g, d, tk, os⟩ := s
    obtain ⟨hl, hb, h⟩ := h
    have f1 := idx_int
    have f2 := AutoSeq1.sub_tuple_tuple
    have f3 := AutoSeq1.sub_list_list
    have f4 := AutoSeq1.sub_tuple_list
    have f5 := AutoSeq1.sub_list_tuple
    have total : (items ++ items2).size ≤ sizeLine + 1 := by
      rw [Array.size_append]
      exact s2
    wp_walk using (wpAny_updateSeq hl rfl (hz := s1) (_hz' := total)), wpAny_loadPart' hl, wpAny_loadPart' hb
    exact ⟨_, rfl, h⟩
end
section
variable {X : Cx}
def rExtT (K : PySem.W.Frag) : V → List V → Hp → VK → Prop := fun x vs H Q =>
  ∃ (l b : Addr) (xs zs : List V), x = .ref l ∧ vs = [.ref b] ∧ H l = some (.lst xs) ∧ SqT K H b zs ∧ xs.length + zs.length ≤ sizeLine ∧ Q .non (upd H l (.lst (xs ++ zs)))
/-- xs.extend(t), t a tuple -/
theorem mt_extT : MtM X "list.extend" (rExtT X.K) := by
  intro pins s σ H x vs v us Q I rx rv h
  obtain ⟨l, b, xs, zs, rfl, rfl, hl, hb, hz, q⟩ := h
  cases rx
  obtain ⟨u, rfl, ru⟩ := rv.one
  cases ru
  obtain ⟨_, its, n, r, e1, at1⟩ := I.lstM hl
  obtain ⟨its2, r2, ⟨⟨cl, dct, dat, sl⟩, at2, e3, n2, e4⟩, _⟩ := I.tuple hb
  dsimp only at e3 e4
  subst e3 e4
  have e2 : zs.length = its2.length := r2.length
  have both : its.toArray.size + its2.toArray.size ≤ sizeLine := by
    rw [List.size_toArray, List.size_toArray]
    omega
  have long : ¬ (!its.toArray.isEmpty && Builtin.List.listTooLong (its.toArray.size + its2.toArray.size)) = true := by
    rw [notLongL both, Bool.and_false]
    exact Bool.false_ne_true
  refine call_meets F.slot_list_extend ⟨_, at1, rfl⟩ F.entry_list_extend (F.args_list_extend_2 _ _)
    (meets_extT l its.toArray n b its2.toArray n2 dct sl long (Nat.le_trans (Nat.le_add_right _ _) both) (Nat.le_succ_of_le both)) ⟨at1, at2, ?_⟩
  refine ⟨.non, _, I.lset (its' := its ++ its2) hl at1 (by simp) (r.append r2) ?_, rfl, q⟩
  rw [List.length_append]
  exact hz
end
end Vr
namespace K89
open PySem PySem.Spec PyProof.Rows L2 Vr
def top (i : Nat) : Stmt := PySem.Challenge.pw_eitherside_k89_odd_leaves_deep_down.main.body.getD i (.Pass ⟨0, 0, 0, 0⟩)
abbrev sTake : Stmt := top 25
/-- a bag at b: what is left of a great cell, a seed, a count -/
def Bag (H : Hp) (b : Addr) : Prop := ∃ x y z : Int, H b = some (.lst [.int x, .int y, .int z]) ∧ 0 ≤ x ∧ 0 ≤ y ∧ y < 2147483647
/-- all but the bag stands -/
def But (b : Addr) (H H' : Hp) : Prop := ∀ c o, H c = some o → c ≠ b → H' c = some o
def spTake : Sp := fun vs H Q _ => ∃ (b : Addr) (m : Int), vs = [.ref b, .int m] ∧ 0 < m ∧ m < 1000000 ∧ Bag H b ∧
  ∀ (r : Int) (H' : Hp), 0 ≤ r → r < m → Bag H' b → But b H H' → Q (.int r) H'
section
variable {P : Program} {w : World} {K : PySem.W.Frag} {mg : Str → Option Value} {base : Heap}
theorem scTake : FnScope ["_law_bag_here", "_law_many", "_law_digit"] ["_law_bag_here", "_law_many"] (defScope sTake) := ⟨rfl, rfl, rfl, by decide +kernel, rfl, by decide +kernel, by decide +kernel⟩
theorem ok_take {f : Addr} {fd : FuncData} (F : Fun K "_law_take" "_law_take" sTake f fd) : FnOk P w K mg base CX0 1 f fd ["_law_bag_here", "_law_many"] spTake := by
  refine F.ok scTake (fun vs H Q E h => ?_) (fun cdv A outer s H vs Q E hr h => ?_)
  · obtain ⟨b, m, rfl, _⟩ := h
    rfl
  · obtain ⟨b, m, rfl, m0, m1, ⟨x, y, z, hb, x0, y0, y1⟩, k⟩ := h
    refine ⟨_, pss_cons (ps_if (pt_cmpR op_gt (pe_ix ix_list (pv 0) pe_int (fun _ _ => rfl)) pe_int (nomark _))
        (pss_cons (ps_set (i := 2) scTake.nd rfl (Or.inl rfl) (pe_op op_modN (pe_ix ix_list (pv 0) pe_int (fun _ _ => rfl)) (pv 1)))
          (pss_cons (ps_asg (pe_op op_fdivN (pe_ix ix_list (pv 0) pe_int (fun _ _ => rfl)) (pv 1)) (pg_sub (pv 0) pe_int set_list))
            (pss_one (ps_ret (pv 2))))) pss_nil)
      (pss_cons (ps_asg (pe_op op_add (pe_ix ix_list (pv 0) pe_int (fun _ _ => rfl)) pe_int) (pg_sub (pv 0) pe_int set_list))
      (pss_cons (ps_asg (pe_op op_mod (pe_op op_add (pe_op op_add (pe_op op_mul (pe_ix ix_list (pv 0) pe_int (fun _ _ => rfl)) pe_int) (pe_op op_mul pe_int (pe_ix ix_list (pv 0) pe_int (fun _ _ => rfl)))) pe_int) pe_int) (pg_sub (pv 0) pe_int set_list))
      (pss_one (ps_ret (pe_op op_modN (pe_op op_fdiv (pe_op op_mod (pe_op op_pow (pe_op op_fdiv (pe_ix ix_list (pv 0) pe_int (fun _ _ => rfl)) pe_int) pe_int) pe_int) pe_int) (pv 1)))))), ?_⟩
    have f0 : ∀ i : Int, 0 ≤ i.fmod m := fun i => Int.fmod_nonneg_of_pos i m0
    have f1 : ∀ i : Int, i.fmod m < m := fun i => Int.fmod_lt_of_pos i m0
    refine ⟨_, rfl, b, _, _, _, rfl, rfl, SqL.of hb, rfl, _, _, rfl, rfl, _, rfl, ?_⟩
    refine ite2 (fun c => ?_) (fun c => ?_)
    · refine ⟨_, rfl, b, _, _, _, rfl, rfl, SqL.of hb, rfl, _, rfl, _, _, rfl, rfl, by omega, ?_⟩
      refine ⟨_, rfl, b, _, _, _, rfl, rfl, SqL.of hb, rfl, _, rfl, _, _, rfl, rfl, ⟨by omega, by omega⟩, ?_⟩
      refine ⟨_, rfl, b, _, _, _, rfl, rfl, hb, rfl, _, rfl, ?_⟩
      refine k _ _ (f0 _) (f1 _) ⟨_, y, z, upd_same, Int.fdiv_nonneg x0 (by omega), y0, y1⟩ fun c o e n => ?_
      rw [upd_ne n]
      exact e
    · refine ⟨_, rfl, b, _, _, _, rfl, rfl, SqL.of hb, rfl, _, _, rfl, rfl, _, rfl, b, _, _, _, rfl, rfl, hb, rfl, ?_⟩
      refine ⟨_, rfl, b, _, _, _, rfl, rfl, SqL.of upd_same, rfl, _, _, rfl, rfl, Or.inr ⟨by decide, by decide⟩, _, rfl, b, _, _, _, rfl, rfl, SqL.of upd_same, rfl, _, _, rfl, rfl, Or.inl ⟨by decide, by decide⟩,
        _, _, rfl, rfl, _, _, rfl, rfl, _, _, rfl, rfl, (by show (0 : Int) < 2147483647; decide), _, rfl, b, _, _, _, rfl, rfl, upd_same, rfl, ?_⟩
      have y2 := Int.emod_nonneg (y * 69621 + 7411 * (z + 1) + 29) (show (2147483647 : Int) ≠ 0 by decide)
      have y3 := Int.emod_lt_of_pos (y * 69621 + 7411 * (z + 1) + 29) (show (0 : Int) < 2147483647 by decide)
      refine ⟨_, rfl, b, _, _, _, rfl, rfl, SqL.of upd_same, rfl, _, _, rfl, rfl, ⟨by decide, by decide⟩, _, _, rfl, rfl, ⟨by decide, by decide, ?_⟩, _, _, rfl, rfl, (by show (0 : Int) < 1048573; decide), _, _, rfl, rfl, ⟨by decide, by decide⟩, _, rfl, _, _, rfl, rfl, by omega, ?_⟩
      · show ((y * 69621 + 7411 * (z + 1) + 29) % 2147483647 / 32).natAbs < 2 ^ 64
        omega
      · refine k _ _ (f0 _) (f1 _) ⟨x, (y * 69621 + 7411 * (z + 1) + 29) % 2147483647, z + 1, upd_same, x0, y2, y3⟩ fun c o e n => ?_
        rw [upd_ne n, upd_ne n]
        exact e
end
abbrev sBag : Stmt := top 24
abbrev sNames : Stmt := top 26
abbrev sRow : Stmt := top 14
theorem But.refl (b : Addr) (H : Hp) : But b H H := fun _ _ e _ => e
theorem But.trans {b : Addr} {H H1 H2 : Hp} (x : But b H H1) (y : But b H1 H2) : But b H H2 := fun c o e n => y c o (x c o e n) n
theorem But.new {b p : Addr} {H : Hp} {o : HO} (hp : H p = none) : But b H (upd H p o) := fun c u e _ => by
  rw [upd_ne (ne_of_none e hp)]
  exact e
/-- a new object p, changed later -/
theorem But.newer {b p : Addr} {H H1 : Hp} {o : HO} (hp : H p = none) (x : But b H H1) : But b H (upd H1 p o) := fun c u e n => by
  rw [upd_ne (ne_of_none e hp)]
  exact x c u e n
theorem Bag.new {b p : Addr} {H : Hp} {o : HO} (h : Bag H b) (hp : p ≠ b) : Bag (upd H p o) b := by
  obtain ⟨x, y, z, e, r⟩ := h
  refine ⟨x, y, z, ?_, r⟩
  rw [upd_ne hp.symm]
  exact e
theorem Bag.ne {b p : Addr} {H : Hp} (h : Bag H b) (hp : H p = none) : p ≠ b := by
  obtain ⟨x, y, z, e, r⟩ := h
  exact (ne_of_none e hp).symm
/-- H p = none ahead of a change that spares p's being new is not told by But: what is new is said at each call -/
def spBag (K : PySem.W.Frag) : Sp := fun vs H Q _ => ∃ (a : Addr) (ns : List Int) (at_ : Int), vs = [.ref a, .int at_] ∧ SqL K H a (ns.map V.int) ∧ ns.length ≤ 63 ∧ 0 ≤ at_ ∧ at_ < 1000 ∧
  ∀ (b : Addr) (H' : Hp), H b = none → Bag H' b → Same H H' → Q (.ref b) H'
section
variable {P : Program} {w : World} {K : PySem.W.Frag} {mg : Str → Option Value} {base : Heap}
theorem scBag : FnScope ["_law_script", "_law_at", "_law_cell", "_law_far", "_law_seed"] ["_law_script", "_law_at"] (defScope sBag) := ⟨rfl, rfl, rfl, by decide +kernel, rfl, by decide +kernel, by decide +kernel⟩
theorem ok_bag {f : Addr} {fd : FuncData} (F : Fun K "_law_bag" "_law_bag" sBag f fd) (gLen : mg "len" = none) (gAbs : mg "abs" = none) (gInt : mg "int" = none) :
    FnOk P w K mg base CX0 1 f fd ["_law_script", "_law_at"] (spBag K) := by
  refine F.ok scBag (fun vs H Q E h => ?_) (fun cdv A outer s H vs Q E hr h => ?_)
  · obtain ⟨a, ns, i, rfl, _⟩ := h
    rfl
  · obtain ⟨a, ns, i, rfl, hS, hl, i0, i1, k⟩ := h
    refine ⟨_, pss_cons (ps_set (i := 2) scBag.nd rfl (Or.inl rfl) (pe_ifExp (pt_cmpR op_lt (pv 1) (pe_callB call_len_seq (by rfl) gLen PySem.boot_len (pa_cons (pv 0) pa_nil)) (nomark _)) (pe_ix ix_list (pv 0) (pv 1) (fun _ _ => rfl)) pe_int))
      (pss_cons (ps_set (i := 3) scBag.nd rfl (Or.inl rfl) (pe_callB call_abs (by rfl) gAbs (by decide +kernel) (pa_cons (pv 2) pa_nil)))
      (pss_cons (ps_set (i := 4) scBag.nd rfl (Or.inl rfl) (pe_op op_mod (pe_op op_add (pe_op op_add (pe_op op_mul (pe_op op_mod (pv 2) pe_int) pe_int) (pe_op op_mul pe_int (pv 1))) pe_int) pe_int))
      (pss_one (ps_ret (pe_lst (pa_cons (pe_op op_mul (pv 3) (pe_callTy call_int1 (by rfl) gInt (by decide +kernel) (pa_cons (pe_cmpR op_ge (pv 3) (pe_op op_pow pe_int pe_int) (nomark _)) pa_nil))) (pa_cons (pv 4) (pa_cons pe_int pa_nil)))))))), ?_⟩
    refine ⟨_, rfl, _, rfl, a, _, rfl, Or.inl hS, _, _, rfl, rfl, _, rfl, ?_⟩
    refine ite2 (fun c => ?_) (fun c => ?_)
    · have c1 := of_decide_eq_true c
      obtain ⟨j, rfl⟩ := Int.eq_ofNat_of_zero_le i0
      rw [List.length_map] at c1
      have c2 : j < ns.length := by omega
      have e : (ns.map V.int)[j]? = some (V.int ns[j]) := by
        rw [List.getElem?_map, List.getElem?_eq_getElem c2]
        rfl
      refine ⟨_, rfl, _, rfl, a, _, _, _, rfl, rfl, hS, atI_nat e, ?_⟩
      generalize ns[j] = cell
      generalize (j : Int) = i at *
      refine ⟨_, rfl, _, rfl, ?_⟩
      have far : 0 ≤ (if cell < 0 then -cell else cell) := by split <;> omega
      generalize (if cell < 0 then -cell else cell) = far_ at *
      have y2 := Int.emod_nonneg (cell % 2147483647 * 48271 + 9173 * i + 90168) (show (2147483647 : Int) ≠ 0 by decide)
      have y3 := Int.emod_lt_of_pos (cell % 2147483647 * 48271 + 9173 * i + 90168) (show (0 : Int) < 2147483647 by decide)
      have z2 := Int.emod_nonneg cell (show (2147483647 : Int) ≠ 0 by decide)
      have z3 := Int.emod_lt_of_pos cell (show (0 : Int) < 2147483647 by decide)
      refine ⟨_, rfl, _, _, rfl, rfl, (by show (0 : Int) < 2147483647; decide), _, _, rfl, rfl, Or.inr ⟨by decide, by decide⟩, _, rfl, _, _, rfl, rfl, Or.inl ⟨by decide, by decide⟩, _, _, rfl, rfl, _, _, rfl, rfl, _, _, rfl, rfl, (by show (0 : Int) < 2147483647; decide), ?_⟩
      refine ⟨_, rfl, _, rfl, _, _, rfl, rfl, ⟨by decide, by decide, by decide⟩, _, _, rfl, rfl, Or.inr ⟨_, rfl, ?_⟩⟩
      by_cases big : (10 : Int) ^ (18 : Int).toNat ≤ far_
      all_goals
        simp only [big, decide_true, decide_false, if_true, if_false, Bool.false_eq_true]
        refine ⟨_, _, rfl, rfl, Or.inr ⟨by decide, by decide⟩, _, rfl, (by show 3 ≤ sizeLine; decide), fun p hp => ?_⟩
        refine k p _ hp ⟨_, _, 0, upd_same, by omega, y2, y3⟩ fun b o e => ?_
        rw [upd_ne (ne_of_none e hp)]
        exact e
    · refine ⟨_, rfl, _, rfl, ?_⟩
      have far : 0 ≤ (if (0 : Int) < 0 then -(0 : Int) else (0 : Int)) := by split <;> omega
      generalize (if (0 : Int) < 0 then -(0 : Int) else (0 : Int)) = far_ at *
      have y2 := Int.emod_nonneg ((0 : Int) % 2147483647 * 48271 + 9173 * i + 90168) (show (2147483647 : Int) ≠ 0 by decide)
      have y3 := Int.emod_lt_of_pos ((0 : Int) % 2147483647 * 48271 + 9173 * i + 90168) (show (0 : Int) < 2147483647 by decide)
      have z2 := Int.emod_nonneg (0 : Int) (show (2147483647 : Int) ≠ 0 by decide)
      have z3 := Int.emod_lt_of_pos (0 : Int) (show (0 : Int) < 2147483647 by decide)
      refine ⟨_, rfl, _, _, rfl, rfl, (by show (0 : Int) < 2147483647; decide), _, _, rfl, rfl, Or.inr ⟨by decide, by decide⟩, _, rfl, _, _, rfl, rfl, Or.inl ⟨by decide, by decide⟩, _, _, rfl, rfl, _, _, rfl, rfl, _, _, rfl, rfl, (by show (0 : Int) < 2147483647; decide), ?_⟩
      refine ⟨_, rfl, _, rfl, _, _, rfl, rfl, ⟨by decide, by decide, by decide⟩, _, _, rfl, rfl, Or.inr ⟨_, rfl, ?_⟩⟩
      by_cases big : (10 : Int) ^ (18 : Int).toNat ≤ far_
      all_goals
        simp only [big, decide_true, decide_false, if_true, if_false, Bool.false_eq_true]
        refine ⟨_, _, rfl, rfl, Or.inr ⟨by decide, by decide⟩, _, rfl, (by show 3 ≤ sizeLine; decide), fun p hp => ?_⟩
        refine k p _ hp ⟨_, _, 0, upd_same, by omega, y2, y3⟩ fun b o e => ?_
        rw [upd_ne (ne_of_none e hp)]
        exact e
end
/-! ### names -/
def Low (x : Str) : Prop := ∀ c ∈ x.cps.toList, 97 ≤ c ∧ c ≤ 122
def letters : Str := "abcdefghijklmnopqrstuvwxyz"
def taken : List Str := ["self", "other", "super", "raises"]
structure Good (x : Str) : Prop where
  one : 1 ≤ x.length
  six : x.length ≤ 6
  low : Low x
  free : x ∉ taken
  nb : x ≠ "nobody"
theorem letter_all : ∀ i : _root_.Fin 26, (atI letters.cps.toList (i.val : Int)).any (fun c => decide (97 ≤ c) && decide (c ≤ 122)) = true := by decide +kernel
theorem letter (r : Int) (h0 : 0 ≤ r) (h1 : r < 26) : ∃ c, atI letters.cps.toList r = some c ∧ 97 ≤ c ∧ c ≤ 122 := by
  obtain ⟨j, rfl⟩ := Int.eq_ofNat_of_zero_le h0
  have h := letter_all ⟨j, by omega⟩
  dsimp only at h
  cases e : atI letters.cps.toList (j : Int) with
  | none =>
    rw [e] at h
    cases h
  | some c =>
    rw [e] at h
    simp at h
    exact ⟨c, rfl, h⟩
theorem app_cps (a y : Str) : (a ++ y).cps.toList = a.cps.toList ++ y.cps.toList := PySem.W.KT.app_list a y
theorem low_app {a y : Str} (h1 : Low a) (h2 : Low y) : Low (a ++ y) := fun c hc => by
  rw [app_cps] at hc
  exact (List.mem_append.mp hc).elim (h1 c) (h2 c)
theorem low_one {c : Nat} (h : 97 ≤ c ∧ c ≤ 122) : Low ⟨#[c]⟩ := fun d hd => by
  have e : d = c := by simpa using hd
  rw [e]
  exact h
theorem low_join : ∀ l : List Str, (∀ x ∈ l, Low x ∧ x.length = 1) → Low (Str.join Str.empty l) ∧ (Str.join Str.empty l).length = l.length
  | [], _ => ⟨fun c hc => by simp [Str.join, Str.empty] at hc, rfl⟩
  | [x], h => ⟨(h x (List.mem_singleton.mpr rfl)).1, (h x (List.mem_singleton.mpr rfl)).2⟩
  | x :: y :: r, h => by
    obtain ⟨h1, h2⟩ := low_join (y :: r) fun z hz => h z (List.mem_cons_of_mem _ hz)
    obtain ⟨g1, g2⟩ := h x List.mem_cons_self
    have e : Str.join Str.empty (x :: y :: r) = x ++ Str.join Str.empty (y :: r) := by
      show x ++ Str.empty ++ Str.join Str.empty (y :: r) = _
      rw [PySem.Str.append_empty]
    rw [e]
    refine ⟨low_app g1 h1, ?_⟩
    rw [PySem.strLen_append, g2, h2]
    simp only [List.length_cons]
    omega
def zs : Str := "zzzzz"
def Stem (x : Str) : Prop := Low x ∧ (x.length ≤ 2 ∨ x = zs)
theorem stem_zs : Stem zs := ⟨fun c hc => by
  have e : zs.cps.toList = [122, 122, 122, 122, 122] := by decide +kernel
  rw [e] at hc
  simp at hc
  omega, Or.inr rfl⟩
theorem stem_len {x : Str} (h : Stem x) : x.length ≤ 5 := by
  rcases h.2 with h | h
  · omega
  · rw [h]
    decide +kernel
theorem taken_len {x : Str} (h : x ∈ taken) : 4 ≤ x.length := by
  simp only [taken, List.mem_cons, List.not_mem_nil, or_false] at h
  rcases h with rfl | rfl | rfl | rfl <;> decide +kernel
theorem taken_first {x : Str} (h : x ∈ taken) : x.cps.toList.head? ≠ some 122 := by
  simp only [taken, List.mem_cons, List.not_mem_nil, or_false] at h
  rcases h with rfl | rfl | rfl | rfl <;> decide +kernel
theorem good_of {x : Str} {c : Nat} (h : Stem x) (hc : 97 ≤ c ∧ c ≤ 122) : Good (x ++ ⟨#[c]⟩) := by
  have e1 : (⟨#[c]⟩ : Str).length = 1 := rfl
  have l5 := stem_len h
  have fst : x = zs → (x ++ ⟨#[c]⟩).cps.toList.head? = some 122 := fun s => by
    rw [s, app_cps]
    have e : zs.cps.toList = [122, 122, 122, 122, 122] := by decide +kernel
    rw [e]
    rfl
  refine ⟨by rw [PySem.strLen_append]; omega, by rw [PySem.strLen_append]; omega, low_app h.1 (low_one hc), fun t => ?_, fun t => ?_⟩
  · rcases h.2 with s | s
    · have := taken_len t
      rw [PySem.strLen_append] at this
      omega
    · exact taken_first t (fst s)
  · rcases h.2 with s | s
    · have : (x ++ (⟨#[c]⟩ : Str)).length = 6 := by rw [t]; decide +kernel
      rw [PySem.strLen_append] at this
      omega
    · have := fst s
      rw [t] at this
      exact absurd this (by decide +kernel)
theorem But.free {b p : Addr} {H H' : Hp} (x : But b H H') (h : Bag H' b) (hp : H' p = none) : H p = none := by
  have ne := h.ne hp
  cases e : H p with
  | none => rfl
  | some o =>
    rw [x p o e ne] at hp
    cases hp
theorem pace4 (r : Int) (h0 : 0 ≤ r) (h1 : r < 4) : ∃ v : Int, atI [V.int 1, V.int 3, V.int 5, V.int 25] r = some (.int v) ∧ 0 ≤ v ∧ v ≤ 25 := by
  have c : r = 0 ∨ r = 1 ∨ r = 2 ∨ r = 3 := by omega
  rcases c with rfl | rfl | rfl | rfl
  · exact ⟨1, rfl, by decide, by decide⟩
  · exact ⟨3, rfl, by decide, by decide⟩
  · exact ⟨5, rfl, by decide, by decide⟩
  · exact ⟨25, rfl, by decide, by decide⟩
def spNames : Sp := fun vs H Q _ => ∃ (b : Addr) (m : Int), vs = [.ref b, .int m] ∧ 0 < m ∧ m < 60 ∧ Bag H b ∧
  ∀ (p : Addr) (ns : List Str) (H' : Hp), H p = none → (ns.length : Int) = m → (∀ x ∈ ns, Good x) → H' p = some (.lst (ns.map V.str)) → Bag H' b → But b H H' → Q (.ref p) H'
section
variable {P : Program} {w : World} {K : PySem.W.Frag} {mg : Str → Option Value} {base : Heap}
abbrev nNames : List Str := ["_law_bag_here", "_law_many", "_law_letters", "_law_stem", "_law_first", "_law_pace", "_law_turn"]
theorem scNames : FnScope nNames ["_law_bag_here", "_law_many"] (defScope sNames) := ⟨rfl, rfl, rfl, by decide +kernel, rfl, by decide +kernel, by decide +kernel⟩
theorem ok_names {f fT : Addr} {fd fdT : FuncData} (F : Fun K "_law_names" "_law_names" sNames f fd) (GT : FnOk P w K mg base CX0 1 fT fdT ["_law_bag_here", "_law_many"] spTake)
    (bT : Binds K fdT ["_law_bag_here", "_law_many"] []) (mT : mg "_law_take" = some (.ref fT)) (kT : PySem.W.keepIn K (.ref fT) = true) (gRange : mg "range" = none) (gSorted : mg "sorted" = none) :
    FnOk P w K mg base CX0 2 f fd ["_law_bag_here", "_law_many"] spNames := by
  refine F.ok scNames (fun vs H Q E h => ?_) (fun cdv A outer s H vs Q E hr h => ?_)
  · obtain ⟨b, m, rfl, _⟩ := h
    rfl
  · obtain ⟨b, m, rfl, m0, m1, hb, k⟩ := h
    refine ⟨_, pss_cons (ps_set (i := 2) scNames.nd rfl (Or.inr rfl) pe_str)
      (pss_cons (ps_set (i := 3) scNames.nd rfl (Or.inr rfl) (pe_join pe_str
        (pe_lc (own := [("_law_turn", 6)]) (g := gName 6) (tt := tYes) rfl scNames.nd (pi_range1 (by rfl) gRange (pa_cons (pe_call GT hr rfl mT kT bT .nil pass0 (pa_cons (pv 0) (pa_cons pe_int pa_nil))) pa_nil))
          (blkOk_by (N := nNames) (sc := defScope sNames) (by decide +kernel)) (fun _ _ _ _ _ => pg_name (i := 6) scNames.nd rfl (Or.inl rfl)) (fun _ _ _ _ _ => pts_nil)
          (fun _ _ _ _ _ => pe_ix ix_str (pv 2) (pe_call GT hr rfl mT kT bT .nil pass0 (pa_cons (pv 0) (pa_cons pe_int pa_nil))) (fun _ _ => rfl)))))
      (pss_cons (ps_if (pt_cmpR op_eq (pe_call GT hr rfl mT kT bT .nil pass0 (pa_cons (pv 0) (pa_cons pe_int pa_nil))) pe_int (nomark _)) (pss_one (ps_set (i := 3) scNames.nd rfl (Or.inr rfl) pe_str)) pss_nil)
      (pss_cons (ps_asg (pe_tup (pa_cons (pe_call GT hr rfl mT kT bT .nil pass0 (pa_cons (pv 0) (pa_cons pe_int pa_nil)))
          (pa_cons (pe_ix ix_list (pe_lst (pa_cons pe_int (pa_cons pe_int (pa_cons pe_int (pa_cons pe_int pa_nil))))) (pe_call GT hr rfl mT kT bT .nil pass0 (pa_cons (pv 0) (pa_cons pe_int pa_nil))) (fun _ _ => rfl)) pa_nil)))
          (pg_tup rfl (pgs_cons (pg_name (i := 4) scNames.nd rfl (Or.inr rfl)) (pgs_cons (pg_name (i := 5) scNames.nd rfl (Or.inr rfl)) pgs_nil))))
      (pss_one (ps_ret (pe_callB cr_sortedS (by rfl) gSorted (by decide +kernel) (pa_cons
        (pe_lc (own := [("_law_turn", 6)]) (g := gName 6) (tt := tYes) rfl scNames.nd (pi_range1 (by rfl) gRange (pa_cons (pv 1) pa_nil))
          (blkOk_by (N := nNames) (sc := defScope sNames) (by decide +kernel)) (fun _ _ _ _ _ => pg_name (i := 6) scNames.nd rfl (Or.inl rfl)) (fun _ _ _ _ _ => pts_nil)
          (fun _ _ _ _ _ => pe_op op_add_str (pv 3) (pe_ix ix_str (pv 2) (pe_op op_mod (pe_op op_add (pv 4) (pe_op op_mul (pv 5) (pv 6))) pe_int) (fun _ _ => rfl)))) pa_nil))))))), ?_⟩
    -- the stem
    refine ⟨⟨_, rfl⟩, _, rfl, b, 3, rfl, by decide, by decide, hb, fun r H1 r0 r1 hb1 k1 => ⟨r, rfl, by omega, by omega, fun D hD => ?_⟩⟩
    have ne1 : D ≠ b := hb1.ne hD
    refine lc_range (lo := 0) (n := r.toNat) (fun i H2 => ∃ acc : List Str, acc.length = i ∧ (∀ x ∈ acc, Low x ∧ x.length = 1) ∧ H2 D = some (.lst (acc.map V.str)) ∧ Bag H2 b ∧ But b H1 H2)
      ⟨[], rfl, by simp, upd_same, hb1.new ne1, But.new hD⟩ ?_ ?_
    · intro i H2 hi ⟨acc, e1, e2, e3, e4, e5⟩
      refine ⟨rfl, _, rfl, _, rfl, b, 26, rfl, by decide, by decide, e4, fun q H3 q0 q1 hb3 k3 => ?_⟩
      obtain ⟨c, hc, hc2⟩ := letter q q0 q1
      refine ⟨letters, q, c, rfl, rfl, by decide +kernel, hc, _, k3 _ _ e3 ne1, ?_, acc ++ [⟨#[c]⟩], by simp [e1], ?_, ?_, hb3.new ne1, ?_⟩
      · rw [List.length_map, e1]
        exact small1000 (by omega)
      · intro x hx
        rcases List.mem_append.mp hx with hx | hx
        · exact e2 x hx
        · rw [List.mem_singleton.mp hx]
          exact ⟨low_one hc2, rfl⟩
      · rw [upd_same, List.map_append]
        rfl
      · exact But.newer hD (e5.trans k3)
    · intro H2 ⟨acc, e1, e2, e3, hb2, k2⟩
      refine ⟨_, D, acc, rfl, rfl, Or.inl (SqL.of e3), ?_, ?_⟩
      · have e : (acc.map fun x => x.length).sum = acc.length := by
          clear e1 e3
          induction acc with
          | nil => rfl
          | cons x l ih =>
            rw [List.map_cons, List.sum_cons, ih fun z hz => e2 z (List.mem_cons_of_mem _ hz), (e2 x List.mem_cons_self).2, List.length_cons]
            omega
        have z : (Str.ofString "").length = 0 := rfl
        rw [e, z, e1]
        omega
      · have hst : Stem (Txt.join (Str.ofString "") acc) := by
          have q := low_join acc e2
          have ej : Txt.join (Str.ofString "") acc = Str.join Str.empty acc := StrLaws.glued_eq_join _ _
          rw [ej]
          exact ⟨q.1, Or.inl (by rw [q.2, e1]; omega)⟩
        generalize Txt.join (Str.ofString "") acc = st0 at hst ⊢
        have k12 := k1.trans k2
        clear k1 k2 hb hb1
        refine ⟨_, rfl, b, 5, rfl, by decide, by decide, hb2, fun q H3 q0 q1 hb3 k3 => ⟨rfl, _, rfl, ?_⟩⟩
        have kk := k12.trans k3
        refine ite2 (fun c => ?_) (fun c => ?_)
        have hs : Stem (Str.ofString "zzzzz") := stem_zs
        generalize (Str.ofString "zzzzz") = st at hs ⊢
        rotate_left
        have hs := hst
        generalize st0 = st at hs ⊢
        all_goals
          -- first, pace
          refine ⟨_, rfl, b, 26, rfl, by decide, by decide, hb3, fun first H4 f0 f1 hb4 k4 => ⟨by decide, fun L hL => ?_⟩⟩
          have neL : L ≠ b := hb4.ne hL
          refine ⟨_, rfl, b, 4, rfl, by decide, by decide, hb4.new neL, fun q5 H5 q50 q51 hb5 k5 => ?_⟩
          obtain ⟨pace, p1, p2, p3⟩ := pace4 q5 q50 q51
          have kL := kk.trans (k4.trans ((But.new hL).trans k5))
          refine ⟨L, _, _, _, rfl, rfl, SqL.of (k5 _ _ upd_same neL), p1, (by show 2 ≤ sizeLine; decide), fun t ht => ?_⟩
          have net : t ≠ b := hb5.ne ht
          refine ⟨t, _, rfl, SqT.of upd_same, rfl, _, _, rfl, _, _, rfl, rfl, ?_⟩
          -- the names
          have kt := kL.trans (But.new (b := b) (o := HO.tup [V.int first, V.int pace]) ht)
          have hb6 := hb5.new (o := HO.tup [V.int first, V.int pace]) net
          refine ⟨_, rfl, m, rfl, by omega, by omega, fun G hG => ?_⟩
          have neG : G ≠ b := hb6.ne hG
          refine lc_range (lo := 0) (n := m.toNat) (fun i H7 => ∃ acc : List Str, acc.length = i ∧ (∀ x ∈ acc, Good x) ∧ H7 G = some (.lst (acc.map V.str)) ∧ Bag H7 b ∧ But b H H7)
            ⟨[], rfl, by simp, upd_same, hb6.new neG, kt.trans (But.new hG)⟩ ?_ ?_
          · intro i H7 hi ⟨ac, a1, a2, a3, a4, a5⟩
            have w0 := Int.emod_nonneg (first + pace * (0 + (i : Int))) (show (26 : Int) ≠ 0 by decide)
            have w1 := Int.emod_lt_of_pos (first + pace * (0 + (i : Int))) (show (0 : Int) < 26 by decide)
            obtain ⟨c, hc, hc2⟩ := letter _ w0 w1
            refine ⟨rfl, _, rfl, _, rfl, _, rfl, _, rfl, _, rfl, _, _, rfl, rfl, Or.inl ⟨by omega, by omega⟩, _, _, rfl, rfl, _, _, rfl, rfl, (by show (0 : Int) < 26; decide),
              letters, _, c, rfl, rfl, by decide +kernel, hc, _, _, rfl, rfl, ?_, _, a3, ?_, ac ++ [st ++ ⟨#[c]⟩], by simp [a1], ?_, ?_, a4.new neG, ?_⟩
            · have := stem_len hs
              have e1 : (⟨#[c]⟩ : Str).length = 1 := rfl
              rw [e1]
              exact Nat.le_of_lt (small1000 (by omega))
            · rw [List.length_map, a1]
              exact small1000 (by omega)
            · intro x hx
              rcases List.mem_append.mp hx with hx | hx
              · exact a2 x hx
              · rw [List.mem_singleton.mp hx]
                exact good_of hs hc2
            · rw [upd_same, List.map_append]
              rfl
            · exact But.newer (kt.free hb6 hG) a5
          · intro H7 ⟨ac, a1, a2, a3, a4, a5⟩
            refine ⟨G, ac, rfl, SqL.of a3, by omega, fun ys p perm _ hp => ?_⟩
            have nep : p ≠ b := a4.ne hp
            refine k p ys _ (a5.free a4 hp) ?_ (fun x hx => a2 x (perm.mem_iff.mp hx)) upd_same (a4.new nep) (a5.trans (But.new hp))
            rw [perm.length_eq, a1]
            omega
end
abbrev sTree : Stmt := top 28
def spRow : Sp := fun vs H Q _ => ∃ (b p : Addr) (m : Int) (ns : List Str), vs = [.ref b, .ref p, .int m] ∧ 0 < m ∧ m < 1000 ∧ Bag H b ∧ H p = some (.lst (ns.map V.str)) ∧ p ≠ b ∧ ns ≠ [] ∧ ns.length < 1000 ∧
  ∀ (t : Addr) (row : List Str) (H' : Hp), H t = none → 1 ≤ row.length → (row.length : Int) ≤ m → (∀ x ∈ row, x ∈ ns) → H' t = some (.tup (row.map V.str)) → Bag H' b → But b H H' → Q (.ref t) H'
/-- len of a list or a tuple, the written part by name -/
def rLen (K : PySem.W.Frag) : List V → Hp → VK → Prop := fun xs H Q => ∃ p ys, xs = [.ref p] ∧ (SqL K H p ys ∨ SqT K H p ys) ∧ Q (.int ys.length) H
theorem call_lenK {X : Cx} : CallR X (.builtin "len") (rLen X.K) := call_len_seq
section
variable {P : Program} {w : World} {K : PySem.W.Frag} {mg : Str → Option Value} {base : Heap}
abbrev nRow : List Str := ["_law_bag_here", "_law_names_here", "_law_most", "_law_turn"]
end
/-! ### trees -/
inductive T where
  | leaf (x : Str)
  | node (l r : T)
def T.row : T → List Str
  | .leaf x => [x]
  | .node l r => l.row ++ r.row
theorem T.row_ne (t : T) : 1 ≤ t.row.length := by
  induction t with
  | leaf x => exact Nat.le_refl _
  | node l r h1 h2 =>
    simp only [T.row, List.length_append]
    omega
def TreeAt (H : Hp) : V → T → Prop
  | v, .leaf x => v = .str x
  | v, .node l r => ∃ (p : Addr) (a c : V), v = .ref p ∧ H p = some (.tup [a, c]) ∧ TreeAt H a l ∧ TreeAt H c r
theorem TreeAt.keep {H H' : Hp} (k : ∀ p xs, H p = some (.tup xs) → H' p = some (.tup xs)) : ∀ {t : T} {v : V}, TreeAt H v t → TreeAt H' v t
  | .leaf _, _, h => h
  | .node _ _, _, ⟨p, a, c, e, h, h1, h2⟩ => ⟨p, a, c, e, k _ _ h, TreeAt.keep k h1, TreeAt.keep k h2⟩
theorem TreeAt.but {H H' : Hp} {b : Addr} {t : T} {v : V} (h : TreeAt H v t) (hb : Bag H b) (k : But b H H') : TreeAt H' v t :=
  h.keep fun p xs e => k p _ e fun z => by
    obtain ⟨x, y, w, q, _⟩ := hb
    rw [z, q] at e
    cases e
theorem TreeAt.same {H H' : Hp} {t : T} {v : V} (h : TreeAt H v t) (k : Same H H') : TreeAt H' v t := h.keep fun p xs e => k p _ e
theorem TreeAt.new {H : Hp} {p : Addr} {o : HO} {t : T} {v : V} (h : TreeAt H v t) (hp : H p = none) : TreeAt (upd H p o) v t := h.keep fun q xs e => by
  rw [upd_ne (ne_of_none e hp)]
  exact e
def spTree (n : Nat) : Sp := fun vs H Q _ => ∃ (b a : Addr) (row : List Str), vs = [.ref b, .ref a] ∧ Bag H b ∧ H a = some (.tup (row.map V.str)) ∧ 1 ≤ row.length ∧ row.length ≤ n ∧ n ≤ 200 ∧
  ∀ (v : V) (t : T) (H' : Hp), TreeAt H' v t → t.row = row → Bag H' b → But b H H' → Q v H'
theorem cut_lo (xs : List V) (k : Nat) (h : k ≤ xs.length) : cutV xs none (some (k : Int)) = xs.take k := by
  unfold cutV
  rw [HT.sIx_none, HT.sIx_nat, Nat.min_eq_left h, List.drop_zero]
  rfl
theorem cut_hi (xs : List V) (k : Nat) (h : k ≤ xs.length) : cutV xs (some (k : Int)) none = xs.drop k := by
  unfold cutV
  rw [HT.sIx_none, HT.sIx_nat, Nat.min_eq_left h, List.take_of_length_le]
  rw [List.length_drop]
  exact Nat.le_refl _
section
variable {P : Program} {w : World} {K : PySem.W.Frag} {mg : Str → Option Value} {base : Heap}
end
abbrev sName : Stmt := top 10
/-! ### data -/
mutual
inductive DatAt (H : Hp) : V → PyData → Prop
  | non : DatAt H .non .none
  | bl (b : Bool) : DatAt H (.bl b) (.bool b)
  | int (i : Int) : DatAt H (.int i) (.int i)
  | str (x : Str) : DatAt H (.str x) (.str x)
  | lst {a : Addr} {xs : List V} {ds : List PyData} : H a = some (.lst xs) → DatAll H xs ds → DatAt H (.ref a) (.list ds)
  | tup {a : Addr} {xs : List V} {ds : List PyData} : H a = some (.tup xs) → DatAll H xs ds → DatAt H (.ref a) (.tuple ds)
inductive DatAll (H : Hp) : List V → List PyData → Prop
  | nil : DatAll H [] []
  | cons {v : V} {vs : List V} {d : PyData} {ds : List PyData} : DatAt H v d → DatAll H vs ds → DatAll H (v :: vs) (d :: ds)
end
section
variable {H H' : Hp} {K : PySem.W.Frag}
mutual
theorem DatAt.dp : ∀ {v : V} {d : PyData}, DatAt H v d → Dp K H v d
  | _, _, .non => .non
  | _, _, .bl b => .bl b
  | _, _, .int i => .int i
  | _, _, .str x => .str x
  | _, _, .lst h r => .lst (SqL.of h) r.dp
  | _, _, .tup h r => .tup (SqT.of h) r.dp
theorem DatAll.dp : ∀ {vs : List V} {ds : List PyData}, DatAll H vs ds → DpAll K H vs ds
  | _, _, .nil => .nil
  | _, _, .cons h r => .cons h.dp r.dp
end
mutual
theorem DatAt.keep (k : ∀ p xs, (H p = some (.tup xs) → H' p = some (.tup xs)) ∧ (H p = some (.lst xs) → H' p = some (.lst xs))) : ∀ {v : V} {d : PyData}, DatAt H v d → DatAt H' v d
  | _, _, .non => .non
  | _, _, .bl b => .bl b
  | _, _, .int i => .int i
  | _, _, .str x => .str x
  | _, _, .lst h r => .lst ((k _ _).2 h) (DatAll.keep k r)
  | _, _, .tup h r => .tup ((k _ _).1 h) (DatAll.keep k r)
theorem DatAll.keep (k : ∀ p xs, (H p = some (.tup xs) → H' p = some (.tup xs)) ∧ (H p = some (.lst xs) → H' p = some (.lst xs))) : ∀ {vs : List V} {ds : List PyData}, DatAll H vs ds → DatAll H' vs ds
  | _, _, .nil => .nil
  | _, _, .cons h r => .cons (DatAt.keep k h) (DatAll.keep k r)
end
theorem DatAt.same {v : V} {d : PyData} (h : DatAt H v d) (k : Same H H') : DatAt H' v d := h.keep fun p xs => ⟨k p _, k p _⟩
theorem DatAll.same {v : List V} {d : List PyData} (h : DatAll H v d) (k : Same H H') : DatAll H' v d := h.keep fun p xs => ⟨k p _, k p _⟩
theorem DatAll.length : ∀ {vs : List V} {ds : List PyData}, DatAll H vs ds → vs.length = ds.length
  | _, _, .nil => rfl
  | _, _, .cons _ r => by simp [r.length]
theorem DatAll.append : ∀ {vs ws : List V} {ds es : List PyData}, DatAll H vs ds → DatAll H ws es → DatAll H (vs ++ ws) (ds ++ es)
  | _, _, _, _, .nil, r => r
  | _, _, _, _, .cons h r, q => .cons h (r.append q)
/-- the last -/
theorem DatAll.snoc : ∀ {ds : List PyData} {vs : List V} {v : V}, DatAll H (vs ++ [v]) ds → ∃ es e, ds = es ++ [e] ∧ DatAll H vs es ∧ DatAt H v e
  | _, [], _, .cons h .nil => ⟨[], _, rfl, .nil, h⟩
  | _, _ :: _, _, .cons h r => by
    obtain ⟨es, e, rfl, h1, h2⟩ := DatAll.snoc r
    exact ⟨_ :: es, e, rfl, .cons h h1, h2⟩
end
theorem Same.new {H : Hp} {p : Addr} {o : HO} (hp : H p = none) : Same H (upd H p o) := fun c u e => by
  rw [upd_ne (ne_of_none e hp)]
  exact e
/-- a new object, changed later -/
theorem Same.newer {H H1 : Hp} {p : Addr} {o : HO} (hp : H p = none) (x : Same H H1) : Same H (upd H1 p o) := fun c u e => by
  rw [upd_ne (ne_of_none e hp)]
  exact x c u e
def tyN : PyData → String
  | .none => "NoneType"
  | .bool _ => "bool"
  | .int _ => "int"
  | .str _ => "str"
  | .list _ => "list"
  | .tuple _ => "tuple"
  | .dict _ => "dict"
theorem DatAt.ty {K : PySem.W.Frag} {H : Hp} {v : V} {d : PyData} (h : DatAt H v d) : TyX K H v (.type (tyN d)) := by
  cases h with
  | non => exact .base .non
  | bl b => exact .base (.bl b)
  | int i => exact .base (.int i)
  | str x => exact .base (.str x)
  | lst h r => exact .base (.lst h)
  | tup h r => exact .base (.tup h)
def isS : PyData → Bool
  | .str _ => true
  | _ => false
def isTup : PyData → Bool
  | .tuple _ => true
  | _ => false
theorem kit_str {K : PySem.W.Frag} : ∀ d : PyData, PySem.W.kitOne K (.type (tyN d)) (.type "str") = some (isS d)
  | .none => kit_ty (show kitB "NoneType" "str" = some false by decide +kernel)
  | .bool _ => kit_ty (show kitB "bool" "str" = some false by decide +kernel)
  | .int _ => kit_ty (show kitB "int" "str" = some false by decide +kernel)
  | .str _ => kit_ty (show kitB "str" "str" = some true by decide +kernel)
  | .list _ => kit_ty (show kitB "list" "str" = some false by decide +kernel)
  | .tuple _ => kit_ty (show kitB "tuple" "str" = some false by decide +kernel)
  | .dict _ => kit_ty (show kitB "dict" "str" = some false by decide +kernel)
theorem kit_tuple {K : PySem.W.Frag} : ∀ d : PyData, PySem.W.kitOne K (.type (tyN d)) (.type "tuple") = some (isTup d)
  | .none => kit_ty (show kitB "NoneType" "tuple" = some false by decide +kernel)
  | .bool _ => kit_ty (show kitB "bool" "tuple" = some false by decide +kernel)
  | .int _ => kit_ty (show kitB "int" "tuple" = some false by decide +kernel)
  | .str _ => kit_ty (show kitB "str" "tuple" = some false by decide +kernel)
  | .list _ => kit_ty (show kitB "list" "tuple" = some false by decide +kernel)
  | .tuple _ => kit_ty (show kitB "tuple" "tuple" = some true by decide +kernel)
  | .dict _ => kit_ty (show kitB "dict" "tuple" = some false by decide +kernel)
def goodB (x : Str) : Bool := decide (1 ≤ x.length) && decide (x.length ≤ 6) && !(taken.any fun y => y == x) && x.cps.toList.all fun c => decide (97 ≤ c) && decide (c ≤ 122)
def nameB : PyData → Bool
  | .str x => goodB x
  | _ => false
def strOk : PyData → Prop
  | .str x => x.length ≤ 100000
  | _ => True
def azB (c : Nat) : Bool := decide (97 ≤ c) && decide (c ≤ 122)
theorem one_lt (c d : Nat) : decide ([c] < [d]) = decide (c < d) := by
  rw [decide_eq_decide]
  constructor
  · intro h
    rcases List.cons_lt_cons_iff.mp h with h | h
    · exact h
    · exact absurd h.2 (List.not_lt_nil _)
  · intro h
    exact List.cons_lt_cons_iff.mpr (Or.inl h)
theorem goodB_eq (x : Str) : goodB x = (decide (1 ≤ x.length) && decide (x.length ≤ 6) && !(taken.any fun y => y == x) && x.cps.toList.all azB) := rfl
theorem inV_taken (x : Str) : inV (.str x) (taken.map V.str) = taken.any fun y => y == x := by
  unfold inV
  rw [List.any_map]
  rfl
theorem smallM {n : Nat} (h : n ≤ 100000) : n < sizeLine := by
  rw [sizeLine_eq]
  omega
def spName : Sp := fun vs H Q _ => ∃ (v : V) (d : PyData), vs = [v] ∧ DatAt H v d ∧ strOk d ∧ ∀ H', Same H H' → Q (.bl (nameB d)) H'
section
variable {P : Program} {w : World} {K : PySem.W.Frag} {mg : Str → Option Value} {base : Heap}
abbrev nName : List Str := ["value", "letter"]
theorem scName : FnScope nName ["value"] (defScope sName) := ⟨rfl, rfl, rfl, by decide +kernel, rfl, by decide +kernel, by decide +kernel⟩
theorem ok_name {f aT : Addr} {fd : FuncData} (F : Fun K "is_name" "is_name" sName f fd) (gIsi : mg "isinstance" = none) (gStr : mg "str" = none) (gLen : mg "len" = none) (gAll : mg "all" = none)
    (mTak : mg "_TAKEN" = some (.ref aT)) (hTak : ∀ H, SqT K H aT (taken.map V.str)) : FnOk P w K mg base CX0 1 f fd ["value"] spName := by
  refine F.ok scName (fun vs H Q E h => ?_) (fun cdv A outer s H vs Q E hr h => ?_)
  · obtain ⟨v, d, rfl, _⟩ := h
    rfl
  · obtain ⟨v, d, rfl, hd, hz, k⟩ := h
    refine ⟨_, pss_cons (ps_if (PW.pt (pw_or (pt_not (pt_val (pe_callB call_isi (by rfl) gIsi (by decide +kernel) (pa_cons (pv 0) (pa_cons (pe_bltn (v := .ty "str") (by rfl) gStr (by decide +kernel) rfl) pa_nil)))))
        (pw_or1 (pt_not (pt_chain op_le op_le pe_int (pe_callB call_len_str (by rfl) gLen PySem.boot_len (pa_cons (pv 0) pa_nil)) pe_int))))) (pss_one (ps_ret pe_bl)) pss_nil)
      (pss_one (ps_ret (pe_and (pe_cmpR op_notIn_seq (pv 0) (pe_glob rfl mTak (v := .ref aT) rfl) (by rfl)) (pe_one (pe_callB (cr_all rfl) (by rfl) gAll (by decide +kernel) (pa_cons
        (pe_lc (own := [("letter", 1)]) (g := gName 1) (tt := tYes) rfl scName.nd (pi_str (pv 0))
          (blkOk_by (N := nName) (sc := defScope sName) (by decide +kernel)) (fun _ _ _ _ _ => pg_name (i := 1) scName.nd rfl (Or.inl rfl)) (fun _ _ _ _ _ => pts_nil)
          (fun _ _ _ _ _ => pe_chain op_le_str op_le_str pe_str (pv 1) pe_str)) pa_nil)))))), ?_⟩
    refine ⟨_, rfl, v, .ty "str", _, _, _, rfl, ClsV.ty "str", hd.ty, kit_str d, _, rfl, ?_⟩
    cases hd with
    | str x =>
      have hz : x.length ≤ 100000 := hz
      have le := Nat.le_of_lt (smallM hz)
      refine iteF ?_
      refine ⟨_, rfl, x, rfl, le, _, _, rfl, rfl, _, rfl, ?_⟩
      refine ite2 (fun c1 => ?_) (fun c1 => ?_)
      · have d1 : 1 ≤ x.length := by
          have := of_decide_eq_true c1
          omega
        refine ⟨_, _, rfl, rfl, _, rfl, ?_⟩
        by_cases d2 : x.length ≤ 6
        · refine iteNS (c := (x.length : Int) ≤ 6) (by omega) ?_
          have eg : goodB x = (!(taken.any fun y => y == x) && x.cps.toList.all azB) := by
            rw [goodB_eq, decide_eq_true d1, decide_eq_true d2]
            rfl
          refine ⟨_, rfl, aT, _, rfl, Or.inr (hTak _), rfl, rfl, _, rfl, ?_⟩
          show if (!inV (.str x) (taken.map V.str)) = true then _ else _
          rw [inV_taken]
          refine ite2 (fun c3 => ?_) (fun c3 => ?_)
          · refine ⟨_, rfl, x, rfl, fun D hD => ?_⟩
            refine lc_it walk_str (fun i H2 => H2 D = some (.lst (((x.cps.toList.take i).map azB).map V.bl)) ∧ Same H H2) ⟨by rw [upd_same]; rfl, Same.new hD⟩ (fun _ _ _ _ => trivial) ?_ ?_
            · intro i y H2 H3 hi ⟨a1, a2⟩ ⟨e1, c, ec, ey⟩
              subst e1 ey
              have el : x.cps.toList[i]? = some c := by simpa using ec
              have tk : x.cps.toList.take (i + 1) = x.cps.toList.take i ++ [c] := by
                rw [List.take_add_one, el]
                rfl
              have sz : (((x.cps.toList.take i).map azB).map V.bl).length < sizeLine := by
                rw [List.length_map, List.length_map, List.length_take]
                have : x.cps.size = x.length := rfl
                exact smallM (by omega)
              have fin : ∀ b : Bool, azB c = b → ∃ acc, H3 D = some (HO.lst acc) ∧ acc.length < sizeLine ∧ (upd H3 D (HO.lst (acc ++ [V.bl b]))) D = some (.lst (((x.cps.toList.take (i + 1)).map azB).map V.bl)) ∧ Same H (upd H3 D (HO.lst (acc ++ [V.bl b]))) := by
                intro b eb
                refine ⟨_, a1, sz, ?_, Same.newer hD a2⟩
                rw [upd_same, tk, List.map_append, List.map_append, ← eb]
                rfl
              refine ⟨rfl, _, rfl, _, _, rfl, rfl, _, rfl, ?_⟩
              have q1 : (!decide ((⟨#[c]⟩ : Str).cps.toList < (Str.ofString "a").cps.toList)) = decide (97 ≤ c) := by
                show (!decide ([c] < [97])) = _
                rw [one_lt]
                by_cases z : c < 97
                · rw [decide_eq_true z, decide_eq_false (by omega)]
                  rfl
                · rw [decide_eq_false z, decide_eq_true (by omega)]
                  rfl
              have q2 : (!decide ((Str.ofString "z").cps.toList < (⟨#[c]⟩ : Str).cps.toList)) = decide (c ≤ 122) := by
                show (!decide ([122] < [c])) = _
                rw [one_lt]
                by_cases z : 122 < c
                · rw [decide_eq_true z, decide_eq_false (by omega)]
                  rfl
                · rw [decide_eq_false z, decide_eq_true (by omega)]
                  rfl
              rw [q1]
              refine ite2 (fun z => ?_) (fun z => ?_)
              · refine ⟨_, _, rfl, rfl, ?_⟩
                have z' := of_decide_eq_true z
                rw [q2]
                exact fin _ (by unfold azB; rw [decide_eq_true z']; rfl)
              · have z' : ¬ 97 ≤ c := fun h => z (decide_eq_true h)
                exact fin _ (by unfold azB; rw [decide_eq_false z']; rfl)
            · intro H2 ⟨a1, a2⟩
              refine ⟨D, (x.cps.toList.map azB), rfl, SqL.of ?_, ?_⟩
              · rw [a1]
                have : x.cps.toList.take x.cps.size = x.cps.toList := List.take_of_length_le (by simp)
                rw [this]
              · have e : (x.cps.toList.map azB).all id = nameB (.str x) := by
                  show _ = goodB x
                  rw [eg, c3, Bool.true_and, List.all_map]
                  rfl
                rw [e]
                exact k _ a2
          · have e : nameB (.str x) = false := by
              show goodB x = false
              have c4 : (!(taken.any fun y => y == x)) = false := by simpa using c3
              rw [eg, c4]
              rfl
            rw [← e]
            exact k _ (Same.refl H)
        · have e : nameB (.str x) = false := by
            show goodB x = false
            rw [goodB_eq, decide_eq_false d2, Bool.and_false]
            rfl
          have z : (!decide ((x.length : Int) ≤ 6)) = true := by
            rw [decide_eq_false (by omega)]
            rfl
          show if (!decide ((x.length : Int) ≤ 6)) = true then _ else _
          rw [z]
          refine iteT ?_
          have q := k H (Same.refl H)
          rw [e] at q
          exact q
      · have d1 : ¬ 1 ≤ x.length := fun z => c1 (decide_eq_true (by omega))
        have e : nameB (.str x) = false := by
          show goodB x = false
          rw [goodB_eq, decide_eq_false d1]
          rfl
        have q := k H (Same.refl H)
        rw [e] at q
        exact ⟨_, rfl, q⟩
    | _ =>
      refine iteT ?_
      refine iteT ?_
      exact k H (Same.refl H)
end
mutual
def isT : PyData → Bool
  | .tuple xs => xs.length == 2 && isTAll xs
  | .str x => goodB x
  | _ => false
def isTAll : List PyData → Bool
  | [] => true
  | d :: ds => isT d && isTAll ds
end
mutual
/-- the parts of tuples within tuples -/
def nd : PyData → Nat
  | .tuple xs => 1 + ndAll xs
  | _ => 1
def ndAll : List PyData → Nat
  | [] => 0
  | d :: ds => nd d + ndAll ds
end
mutual
/-- no text is too long -/
def ok : PyData → Bool
  | .tuple xs => okAll xs
  | .str x => decide (x.length ≤ 100000)
  | _ => true
def okAll : List PyData → Bool
  | [] => true
  | d :: ds => ok d && okAll ds
end
theorem nd_pos (d : PyData) : 1 ≤ nd d := by
  cases d <;> simp only [nd] <;> omega
theorem ndAll_len : ∀ ds : List PyData, ds.length ≤ ndAll ds
  | [] => Nat.le_refl _
  | d :: ds => by
    have := nd_pos d
    have := ndAll_len ds
    simp only [List.length_cons, ndAll]
    omega
theorem ndAll_app : ∀ ds es : List PyData, ndAll (ds ++ es) = ndAll ds + ndAll es
  | [], es => by simp [ndAll]
  | d :: ds, es => by
    simp only [List.cons_append, ndAll, ndAll_app ds es]
    omega
theorem isTAll_app : ∀ ds es : List PyData, isTAll (ds ++ es) = (isTAll ds && isTAll es)
  | [], es => by simp [isTAll]
  | d :: ds, es => by simp only [List.cons_append, isTAll, isTAll_app ds es, Bool.and_assoc]
theorem okAll_app : ∀ ds es : List PyData, okAll (ds ++ es) = (okAll ds && okAll es)
  | [], es => by simp [okAll]
  | d :: ds, es => by simp only [List.cons_append, okAll, okAll_app ds es, Bool.and_assoc]

theorem ok_str {d : PyData} (h : ok d = true) : strOk d := by
  cases d with
  | str x =>
    show x.length ≤ 100000
    simpa [ok] using h
  | _ => trivial

def TreeAll (H : Hp) : List V → List T → Prop
  | [], [] => True
  | v :: vs, t :: ts => TreeAt H v t ∧ TreeAll H vs ts
  | _, _ => False
theorem TreeAll.length {H : Hp} : ∀ {vs : List V} {ts : List T}, TreeAll H vs ts → vs.length = ts.length
  | [], [], _ => rfl
  | _ :: _, _ :: _, h => by simp [h.2.length]
theorem TreeAll.append {H : Hp} : ∀ {vs ws : List V} {ts us : List T}, TreeAll H vs ts → TreeAll H ws us → TreeAll H (vs ++ ws) (ts ++ us)
  | [], _, [], _, _, q => q
  | _ :: _, _, _ :: _, _, h, q => ⟨h.1, h.2.append q⟩
theorem TreeAll.snoc {H : Hp} : ∀ {vs : List V} {v : V} {ts : List T}, TreeAll H (vs ++ [v]) ts → ∃ us u, ts = us ++ [u] ∧ TreeAll H vs us ∧ TreeAt H v u
  | [], _, [u], h => ⟨[], u, rfl, trivial, h.1⟩
  | [], _, _ :: _ :: _, h => h.2.elim
  | _ :: vs, _, t :: ts, h => by
    obtain ⟨us, u, rfl, h1, h2⟩ := TreeAll.snoc (vs := vs) h.2
    exact ⟨t :: us, u, rfl, ⟨h.1, h1⟩, h2⟩
/-- the row of waiting trees, the last first -/
def rows : List T → List Str
  | [] => []
  | t :: ts => rows ts ++ t.row
theorem rows_app : ∀ ts us : List T, rows (ts ++ us) = rows us ++ rows ts
  | [], us => by simp [rows]
  | t :: ts, us => by simp only [List.cons_append, rows, rows_app ts us, List.append_assoc]
def T.size : T → Nat
  | .leaf _ => 1
  | .node l r => 1 + l.size + r.size
def sizes : List T → Nat
  | [] => 0
  | t :: ts => t.size + sizes ts
theorem sizes_app : ∀ ts us : List T, sizes (ts ++ us) = sizes ts + sizes us
  | [], us => by simp [sizes]
  | t :: ts, us => by
    simp only [List.cons_append, sizes, sizes_app ts us]
    omega
theorem T.size_pos (t : T) : 1 ≤ t.size := by
  cases t <;> simp only [T.size] <;> omega
theorem sizes_len : ∀ ts : List T, ts.length ≤ sizes ts
  | [] => Nat.le_refl _
  | t :: ts => by
    have := t.size_pos
    have := sizes_len ts
    simp only [List.length_cons, sizes]
    omega
theorem T.size_row (t : T) : t.size + 1 = 2 * t.row.length := by
  induction t with
  | leaf x => rfl
  | node l r h1 h2 =>
    simp only [T.size, T.row, List.length_append]
    omega
theorem T.row_le (t : T) : t.row.length ≤ t.size := by
  have := t.size_row
  have := t.row_ne
  omega
theorem rows_le : ∀ ts : List T, (rows ts).length ≤ sizes ts
  | [] => Nat.le_refl _
  | t :: ts => by
    have := t.row_le
    have := rows_le ts
    simp only [rows, sizes, List.length_append]
    omega

def T.depth : T → Nat
  | .leaf _ => 0
  | .node l r => max l.depth r.depth + 1
theorem T.depth_row (t : T) : t.depth < t.row.length := by
  induction t with
  | leaf x => exact Nat.zero_lt_one
  | node l r h1 h2 =>
    simp only [T.depth, T.row, List.length_append]
    omega

/-! ### how long a text data makes -/
mutual
def wt : PyData → Nat
  | .list xs => wtAll xs + 4
  | .tuple xs => wtAll xs + 4
  | .dict _ => 0
  | .none => 4
  | .bool _ => 5
  | .int i => (toString i : Str).length
  | .str x => (reprText x).length
def wtAll : List PyData → Nat
  | [] => 0
  | d :: ds => wt d + 2 + wtAll ds
end
theorem list_text (ts : List Str) : (listText ts).length ≤ piled ts + 2 := by
  cases ts with
  | nil => decide +kernel
  | cons t r =>
    have h := textFrom_length_pos r 1 (("[" : Str) ++ (if (0 : Nat) > 0 then ", " else "" : String) ++ t) (Nat.succ_pos 0)
    have e1 : ((("[" : Str) ++ (if (0 : Nat) > 0 then ", " else "" : String) ++ t)).length = 1 + t.length := by
      rw [PySem.strLen_append, PySem.strLen_append]
      rfl
    have e2 : (listText (t :: r)).length = (textFrom 1 (("[" : Str) ++ (if (0 : Nat) > 0 then ", " else "" : String) ++ t) r).length + 1 := by
      show (textFrom 0 "[" (t :: r) ++ "]").length = _
      rw [PySem.strLen_append]
      rfl
    rw [e2, h, e1, piled_cons]
    omega
mutual
theorem shown_le : ∀ d : PyData, d.hasDict = false → d.shown.length ≤ wt d
  | .none, _ => by
    simp only [PyData.shown, wt]
    decide +kernel
  | .bool b, _ => by
    cases b <;> (simp only [PyData.shown, wt]; decide +kernel)
  | .int i, _ => by
    simp only [PyData.shown, wt]
    exact Nat.le_refl _
  | .str x, _ => by
    simp only [PyData.shown, wt]
    exact Nat.le_refl _
  | .list xs, h => by
    simp only [PyData.shown, wt]
    have h1 := shownAll_le xs (by simpa [PyData.hasDict] using h)
    have h2 := list_text (PyData.shownAll xs)
    omega
  | .tuple xs, h => by
    simp only [PyData.shown, wt]
    have h1 := shownAll_le xs (by simpa [PyData.hasDict] using h)
    have h2 := PySem.fmt_text (PyData.shownAll xs)
    omega
  | .dict _, h => by simp [PyData.hasDict] at h
theorem shownAll_le : ∀ ds : List PyData, PyData.hasDictAll ds = false → piled (PyData.shownAll ds) ≤ wtAll ds
  | [], _ => by simp [PyData.shownAll, wtAll, piled]
  | d :: ds, h => by
    have h' : d.hasDict = false ∧ PyData.hasDictAll ds = false := by simpa [PyData.hasDictAll] using h
    have h1 := shown_le d h'.1
    have h2 := shownAll_le ds h'.2
    simp only [PyData.shownAll, wtAll, piled_cons]
    omega
end
/-! ### trees as data -/
def T.data : T → PyData
  | .leaf x => .str x
  | .node l r => .tuple [l.data, r.data]
theorem TreeAt.dat {H : Hp} : ∀ {t : T} {v : V}, TreeAt H v t → DatAt H v t.data
  | .leaf x, v, h => by
    cases (show v = V.str x from h)
    exact .str x
  | .node l r, v, ⟨p, a, c, e, hp, h1, h2⟩ => by
    subst e
    exact .tup hp (.cons h1.dat (.cons h2.dat .nil))
def AllGood (t : T) : Prop := ∀ x ∈ t.row, Good x
theorem AllGood.l {l r : T} (h : AllGood (.node l r)) : AllGood l := fun x hx => h x (List.mem_append_left _ hx)
theorem AllGood.r {l r : T} (h : AllGood (.node l r)) : AllGood r := fun x hx => h x (List.mem_append_right _ hx)
theorem good_B {x : Str} (h : Good x) : goodB x = true := by
  have h1 : (taken.any fun y => y == x) = false := by
    rw [List.any_eq_false]
    intro y hy z
    have e : y = x := by simpa using z
    exact h.free (e ▸ hy)
  have h2 : x.cps.toList.all azB = true := by
    rw [List.all_eq_true]
    intro c hc
    have := h.low c hc
    unfold azB
    rw [decide_eq_true this.1, decide_eq_true this.2]
    rfl
  rw [goodB_eq, decide_eq_true h.one, decide_eq_true h.six, h1, h2]
  rfl
theorem good_wt {x : Str} (h : Good x) : (reprText x).length ≤ 62 := by
  have := StrLaws.reprText_len x fun c hc => by
    have := (h.low c hc).2
    exact Nat.lt_of_le_of_lt this (by decide)
  have := h.six
  omega
theorem good_strOk {x : Str} (h : Good x) : PyData.strOk x = true := by
  unfold PyData.strOk
  rw [Array.all_eq_true']
  intro c hc
  have := (h.low c (by simpa using hc)).2
  exact decide_eq_true (by omega)
structure Fit (n w k : Nat) (d : PyData) : Prop where
  ok : ok d = true
  lay : d.canLay0 = true
  sho : d.showable = true
  dep : d.depth ≤ n
  wid : wt d ≤ w
  nod : nd d ≤ k
theorem Fit.mono {n w k n' w' k' : Nat} {d : PyData} (h : Fit n w k d) (h1 : n ≤ n') (h2 : w ≤ w') (h3 : k ≤ k') : Fit n' w' k' d :=
  ⟨h.ok, h.lay, h.sho, Nat.le_trans h.dep h1, Nat.le_trans h.wid h2, Nat.le_trans h.nod h3⟩
theorem Fit.pair {n m w u k j : Nat} {d e : PyData} (h : Fit n w k d) (g : Fit m u j e) : Fit (max n m + 1) (w + u + 8) (1 + k + j) (.tuple [d, e]) := by
  refine ⟨?_, ?_, ?_, ?_, ?_, ?_⟩
  · simp only [K89.ok, okAll, h.ok, g.ok, Bool.and_self]
  · simp only [PyData.canLay0, PyData.canLayAll0, h.lay, g.lay, Bool.and_self]
  · simp only [PyData.showable, PyData.showableAll, h.sho, g.sho, Bool.and_self]
  · have := h.dep
    have := g.dep
    simp only [PyData.depth, PyData.depthAll]
    omega
  · have := h.wid
    have := g.wid
    simp only [wt, wtAll]
    omega
  · have := h.nod
    have := g.nod
    simp only [nd, ndAll]
    omega
theorem tree_fit : ∀ t : T, AllGood t → Fit t.depth (70 * t.size) t.size t.data
  | .leaf x, h => by
    have g := h x (List.mem_singleton.mpr rfl)
    refine ⟨?_, ?_, ?_, ?_, ?_, ?_⟩
    · have := g.six
      simp only [T.data, K89.ok]
      exact decide_eq_true (by omega)
    · simp only [T.data, PyData.canLay0]
      exact good_strOk g
    · simp only [T.data, PyData.showable]
    · simp only [T.data, PyData.depth]
      exact Nat.zero_le _
    · have := good_wt g
      simp only [T.data, wt, T.size]
      omega
    · simp only [T.data, nd, T.size]
      exact Nat.le_refl _
  | .node l r, h => by
    refine ((tree_fit l h.l).pair (tree_fit r h.r)).mono (Nat.le_refl _) ?_ ?_
    · simp only [T.size]
      omega
    · simp only [T.size]
      omega

/-- a def of the text, asked only where no repr is under way -/
theorem fun_okG {P : Program} {w : World} {K : PySem.W.Frag} {mg : Str → Option Value} {base : Heap} {x qual : Str} {st : Stmt} {f : Addr} {fd : FuncData} {N ps : List Str} {k : Nat} {sp : Sp} (F : Fun K x qual st f fd)
    (S : FnScope N ps (defScope st)) (len : ∀ vs H Q E, sp vs H Q E → vs.length = ps.length)
    (hbody : ∀ (cdv : Value) (A : Around) (outer : List Env) (s : Shared) (H : Hp) (vs : List V) (Q : VK) (E : XK), A.guards = some [] →
      Room k (A.deeper (envOfC qual (defScope st) s.heap.objs.size f cdv)) → sp vs H Q E →
      ∃ t, PSs (cxOf CX0 P w K mg base N qual (defScope st) f cdv A outer s H E).nox (defBody st) t ∧ t { nx := fun _ H' => Q .non H', rt := Q } (start N vs) H) : GOk P w K mg base CX0 (k + 1) f fd ps sp := by
  obtain ⟨oc, od, kV, doc, pm, an, cdv, ct, osl, rfl, lk, hcd⟩ := F.ex
  refine gok_of lk hcd S len fun A outer s H vs Q E hg hr hsp => ?_
  obtain ⟨t, h, q⟩ := hbody cdv A outer s H vs Q E hg hr hsp
  exact ⟨t, h.nox, q⟩
theorem Same.thenBut {H H1 H2 : Hp} {b : Addr} (hb : H b = none) (k1 : Same H H1) (k2 : But b H1 H2) : Same H H2 := fun c o e => k2 c o (k1 c o e) (ne_of_none e hb)

theorem Fit.shaped {n w k : Nat} {d : PyData} (h : Fit n w k d) (hn : n ≤ 64) : SeqAt.shaped d = true := by
  unfold SeqAt.shaped
  rw [h.lay, decide_eq_true (Nat.le_trans h.dep hn)]
  rfl
theorem Fit.short {n w k : Nat} {d : PyData} (h : Fit n w k d) (hw : w ≤ 1000000) : d.shown.length ≤ sizeLine := by
  have h1 := shown_le d (PyData.hasDict_of_canLay d h.lay)
  have h2 := h.wid
  rw [sizeLine_eq]
  omega
theorem Fit.eqv {n w k : Nat} {d : PyData} (h : Fit n w k d) : PyData.eqv d d = true := SeqAt.eqv_refl d h.lay

theorem allGood_of {ns row : List Str} {t : T} (g : ∀ x ∈ ns, Good x) (m : ∀ x ∈ row, x ∈ ns) (e : t.row = row) : AllGood t := fun x hx => g x (m x (e ▸ hx))

theorem Bag.same {H H' : Hp} {b : Addr} (h : Bag H b) (k : Same H H') : Bag H' b := by
  obtain ⟨x, y, z, e, r⟩ := h
  exact ⟨x, y, z, k _ _ e, r⟩
theorem Same.but {H H' : Hp} (b : Addr) (k : Same H H') : But b H H' := fun c o e _ => k c o e

end K89
namespace K89
open PySem PySem.Spec PyProof.Rows L2 Vr
abbrev sIsTree : Stmt := top 12
def spIsTree : Sp := fun vs H Q _ => ∃ (v : V) (d : PyData), vs = [v] ∧ DatAt H v d ∧ ok d = true ∧ nd d ≤ 1000000 ∧ ∀ H', Same H H' → Q (.bl (isT d)) H'
/-- what is true of a part that is no pair -/
theorem isT_name {d : PyData} (h : ∀ xs, d = .tuple xs → xs.length ≠ 2) : isT d = nameB d := by
  cases d with
  | tuple xs =>
    have e : (xs.length == 2) = false := by simpa using h xs rfl
    simp only [isT, nameB, e, Bool.false_and]
  | str x => simp only [isT, nameB]
  | _ => simp only [isT, nameB]
section
variable {P : Program} {w : World} {K : PySem.W.Frag} {mg : Str → Option Value} {base : Heap}
abbrev nIsTree : List Str := ["value", "waiting", "part"]
theorem scIsTree : FnScope nIsTree ["value"] (defScope sIsTree) := ⟨rfl, rfl, rfl, by decide +kernel, rfl, by decide +kernel, by decide +kernel⟩
theorem ok_isTree {f fN : Addr} {fd fdN : FuncData} (F : Fun K "is_tree" "is_tree" sIsTree f fd) (GN : FnOk P w K mg base CX0 1 fN fdN ["value"] spName) (bN : Binds K fdN ["value"] [])
    (mN : mg "is_name" = some (.ref fN)) (kN : PySem.W.keepIn K (.ref fN) = true) (gIsi : mg "isinstance" = none) (gTuple : mg "tuple" = none) (gLen : mg "len" = none) :
    FnOk P w K mg base CX0 2 f fd ["value"] spIsTree := by
  refine F.ok scIsTree (fun vs H Q E h => ?_) (fun cdv A outer s H vs Q E hr h => ?_)
  · obtain ⟨v, d, rfl, _⟩ := h
    rfl
  · obtain ⟨v, d, rfl, hd, hok, hn, k⟩ := h
    refine ⟨_, pss_cons (ps_set (i := 1) scIsTree.nd rfl (Or.inl rfl) (pe_lst (pa_cons (pv 0) pa_nil)))
      (pss_cons (ps_while PassesOwn.never (pt_truth (pv 1) (by intro _; rfl))
        (pss_cons (ps_set (i := 2) scIsTree.nd rfl (Or.inl rfl) (pe_bm0 PySem.F.plainAttrs_list PySem.F.slot_list_pop PySem.F.type_list_pop mt_pop (pv 1)))
        (pss_one (ps_if (PW.pt (pw_and (pt_val (pe_callB call_isi (by rfl) gIsi (by decide +kernel) (pa_cons (pv 2) (pa_cons (pe_bltn (v := .ty "tuple") (by rfl) gTuple (by decide +kernel) rfl) pa_nil))))
            (pw_and1 (pt_cmpR op_eq (pe_callB call_len_seq (by rfl) gLen PySem.boot_len (pa_cons (pv 2) pa_nil)) pe_int (nomark _)))))
          (pss_one (ps_expr (pe_bm PySem.F.plainAttrs_list PySem.F.slot_list_extend PySem.F.type_list_extend mt_extT (pv 1) (pa_cons (pv 2) pa_nil))))
          (pss_one (ps_if (pt_not (pt_val (pe_call GN hr rfl mN kN bN .nil pass0 (pa_cons (pv 2) pa_nil)))) (pss_one (ps_ret pe_bl)) pss_nil))))))
      (pss_one (ps_ret pe_bl))), ?_⟩
    refine ⟨_, rfl, (by show 1 ≤ sizeLine; decide), fun wl hw => ?_⟩
    refine ⟨fun m σ H1 => ∃ (vs : List V) (ds : List PyData) (pt : Option V), σ = [some v, some (.ref wl), pt] ∧ H1 wl = some (.lst vs) ∧ DatAll H vs ds ∧ ndAll ds = m ∧ m ≤ 1000000 ∧ okAll ds = true ∧ isT d = isTAll ds ∧ Same H H1,
      ⟨ndAll [d], [v], [d], none, rfl, upd_same, .cons hd .nil, rfl, by simp only [ndAll]; omega, by simp only [okAll, hok, Bool.and_true], by simp only [isTAll, Bool.and_true], Same.new hw⟩, ?_⟩
    rintro m σ H1 ⟨vs, ds, pt, rfl, a1, a2, a3, a4, a5, a6, a7⟩
    refine ⟨_, rfl, !vs.isEmpty, Or.inl ⟨vs, SqL.of a1, rfl⟩, ?_⟩
    rcases List.eq_nil_or_concat vs with rfl | ⟨ini, last, rfl⟩
    · cases a2
      have q := k H1 a7
      rw [a6] at q
      exact q
    · rw [List.concat_eq_append] at *
      obtain ⟨es, e, rfl, h1, h2⟩ := a2.snoc
      have nz : (!(ini ++ [last]).isEmpty) = true := by simp
      show if (!(ini ++ [last]).isEmpty) = true then _ else _
      rw [if_pos nz]
      refine ⟨_, fun _ _ z => z, ?_⟩
      refine ⟨_, rfl, Or.inl ⟨rfl, _, SqL.of a1⟩, wl, _, last, rfl, rfl, a1, by simp, ?_⟩
      rw [List.dropLast_concat]
      have s2 : Same H (upd H1 wl (.lst ini)) := Same.newer hw a7
      have okE : strOk e := by
        rw [okAll_app, Bool.and_eq_true] at a5
        have := a5.2
        simp only [okAll, Bool.and_true] at this
        exact ok_str this
      refine ⟨_, rfl, last, .ty "tuple", _, _, _, rfl, ClsV.ty "tuple", (h2.same s2).ty, kit_tuple e, _, rfl, ?_⟩
      cases e with
      | tuple xs =>
        cases h2 with
        | @tup a zs _ hp r =>
          have hp2 := s2 _ _ hp
          have zl := r.length
          refine iteT ?_
          refine ⟨_, rfl, a, _, rfl, Or.inr (SqT.of hp2), rfl, _, rfl, ?_⟩
          refine ite2 (fun c => ?_) (fun c => ?_)
          · have c2 : xs.length = 2 := by
              have := V.int.inj (of_decide_eq_true c)
              omega
            have il : ini.length ≤ 1000000 := by
              have e1 := h1.length
              have e2 := ndAll_len es
              rw [← a3, ndAll_app] at a4
              omega
            refine ⟨_, rfl, Or.inl ⟨rfl, _, SqL.of upd_same⟩, _, rfl, wl, a, ini, zs, rfl, rfl, upd_same, SqT.of hp2, ?_, ?_⟩
            · rw [sizeLine_eq]
              omega
            · refine ⟨ndAll (es ++ xs), ?_, ini ++ zs, es ++ xs, some (.ref a), rfl, upd_same, h1.append r, rfl, ?_, ?_, ?_, Same.newer hw s2⟩
              · rw [← a3, ndAll_app, ndAll_app, ndAll, ndAll, nd]
                omega
              · rw [← a3, ndAll_app, ndAll, ndAll, nd] at a4
                rw [ndAll_app]
                omega
              · rw [okAll_app, okAll, okAll, ok] at a5
                rw [okAll_app]
                simpa using a5
              · rw [a6, isTAll_app, isTAll_app, isTAll, isTAll, isT, c2]
                simp
          · have hne : isT (.tuple xs) = nameB (.tuple xs) := isT_name fun ys ey => by
              cases ey
              intro c2
              exact c (decide_eq_true (by rw [zl, c2]; rfl))
            have h2 : DatAt H (.ref a) (.tuple xs) := .tup hp r
            generalize V.ref a = last at *
            refine ⟨_, rfl, last, (PyData.tuple xs), rfl, h2.same s2, okE, fun H3 s3 => ⟨_, rfl, ?_⟩⟩
            cases nb : nameB (PyData.tuple xs) with
            | false =>
              refine iteT ?_
              have q := k H3 (s2.trans s3)
              have z : isT d = false := by rw [a6, isTAll_app, isTAll, isTAll, hne, nb]; simp
              rw [z] at q
              exact q
            | true =>
              refine iteF ?_
              refine ⟨ndAll es, by rw [← a3, ndAll_app, ndAll, ndAll]; have := nd_pos (PyData.tuple xs); omega, ini, es, some last, rfl, s3 _ _ upd_same, h1, rfl, ?_, ?_, ?_, s2.trans s3⟩
              · rw [← a3, ndAll_app] at a4
                omega
              · rw [okAll_app, Bool.and_eq_true] at a5
                exact a5.1
              · rw [a6, isTAll_app, isTAll, isTAll, hne, nb]
                simp
      | none =>
        have hne := isT_name (d := .none) (fun _ z => by cases z)
        refine iteF ?_
        refine ⟨_, rfl, last, PyData.none, rfl, h2.same s2, okE, fun H3 s3 => ⟨_, rfl, ?_⟩⟩
        cases nb : nameB PyData.none with
        | false =>
          refine iteT ?_
          have q := k H3 (s2.trans s3)
          have z : isT d = false := by rw [a6, isTAll_app, isTAll, isTAll, hne, nb]; simp
          rw [z] at q
          exact q
        | true =>
          refine iteF ?_
          refine ⟨ndAll es, by rw [← a3, ndAll_app, ndAll, ndAll]; have := nd_pos PyData.none; omega, ini, es, some last, rfl, s3 _ _ upd_same, h1, rfl, ?_, ?_, ?_, s2.trans s3⟩
          · rw [← a3, ndAll_app] at a4
            omega
          · rw [okAll_app, Bool.and_eq_true] at a5
            exact a5.1
          · rw [a6, isTAll_app, isTAll, isTAll, hne, nb]
            simp
      | bool y =>
        have hne := isT_name (d := .bool y) (fun _ z => by cases z)
        refine iteF ?_
        refine ⟨_, rfl, last, (PyData.bool y), rfl, h2.same s2, okE, fun H3 s3 => ⟨_, rfl, ?_⟩⟩
        cases nb : nameB (PyData.bool y) with
        | false =>
          refine iteT ?_
          have q := k H3 (s2.trans s3)
          have z : isT d = false := by rw [a6, isTAll_app, isTAll, isTAll, hne, nb]; simp
          rw [z] at q
          exact q
        | true =>
          refine iteF ?_
          refine ⟨ndAll es, by rw [← a3, ndAll_app, ndAll, ndAll]; have := nd_pos (PyData.bool y); omega, ini, es, some last, rfl, s3 _ _ upd_same, h1, rfl, ?_, ?_, ?_, s2.trans s3⟩
          · rw [← a3, ndAll_app] at a4
            omega
          · rw [okAll_app, Bool.and_eq_true] at a5
            exact a5.1
          · rw [a6, isTAll_app, isTAll, isTAll, hne, nb]
            simp
      | int y =>
        have hne := isT_name (d := .int y) (fun _ z => by cases z)
        refine iteF ?_
        refine ⟨_, rfl, last, (PyData.int y), rfl, h2.same s2, okE, fun H3 s3 => ⟨_, rfl, ?_⟩⟩
        cases nb : nameB (PyData.int y) with
        | false =>
          refine iteT ?_
          have q := k H3 (s2.trans s3)
          have z : isT d = false := by rw [a6, isTAll_app, isTAll, isTAll, hne, nb]; simp
          rw [z] at q
          exact q
        | true =>
          refine iteF ?_
          refine ⟨ndAll es, by rw [← a3, ndAll_app, ndAll, ndAll]; have := nd_pos (PyData.int y); omega, ini, es, some last, rfl, s3 _ _ upd_same, h1, rfl, ?_, ?_, ?_, s2.trans s3⟩
          · rw [← a3, ndAll_app] at a4
            omega
          · rw [okAll_app, Bool.and_eq_true] at a5
            exact a5.1
          · rw [a6, isTAll_app, isTAll, isTAll, hne, nb]
            simp
      | str y =>
        have hne := isT_name (d := .str y) (fun _ z => by cases z)
        refine iteF ?_
        refine ⟨_, rfl, last, (PyData.str y), rfl, h2.same s2, okE, fun H3 s3 => ⟨_, rfl, ?_⟩⟩
        cases nb : nameB (PyData.str y) with
        | false =>
          refine iteT ?_
          have q := k H3 (s2.trans s3)
          have z : isT d = false := by rw [a6, isTAll_app, isTAll, isTAll, hne, nb]; simp
          rw [z] at q
          exact q
        | true =>
          refine iteF ?_
          refine ⟨ndAll es, by rw [← a3, ndAll_app, ndAll, ndAll]; have := nd_pos (PyData.str y); omega, ini, es, some last, rfl, s3 _ _ upd_same, h1, rfl, ?_, ?_, ?_, s2.trans s3⟩
          · rw [← a3, ndAll_app] at a4
            omega
          · rw [okAll_app, Bool.and_eq_true] at a5
            exact a5.1
          · rw [a6, isTAll_app, isTAll, isTAll, hne, nb]
            simp
      | list y =>
        have hne := isT_name (d := .list y) (fun _ z => by cases z)
        refine iteF ?_
        refine ⟨_, rfl, last, (PyData.list y), rfl, h2.same s2, okE, fun H3 s3 => ⟨_, rfl, ?_⟩⟩
        cases nb : nameB (PyData.list y) with
        | false =>
          refine iteT ?_
          have q := k H3 (s2.trans s3)
          have z : isT d = false := by rw [a6, isTAll_app, isTAll, isTAll, hne, nb]; simp
          rw [z] at q
          exact q
        | true =>
          refine iteF ?_
          refine ⟨ndAll es, by rw [← a3, ndAll_app, ndAll, ndAll]; have := nd_pos (PyData.list y); omega, ini, es, some last, rfl, s3 _ _ upd_same, h1, rfl, ?_, ?_, ?_, s2.trans s3⟩
          · rw [← a3, ndAll_app] at a4
            omega
          · rw [okAll_app, Bool.and_eq_true] at a5
            exact a5.1
          · rw [a6, isTAll_app, isTAll, isTAll, hne, nb]
            simp
      | dict y => cases h2
end
end K89
namespace K89
open PySem PySem.Spec PyProof.Rows L2 Vr
abbrev sPost : Stmt := top 14
/-- the leaves from left to right, None behind each two -/
def T.post : T → List (Option Str)
  | .leaf x => [some x]
  | .node l r => l.post ++ r.post ++ [none]
def oV : Option Str → V
  | none => .non
  | some x => .str x
def WAt (H : Hp) (v : V) : Option T → Prop
  | none => v = .non
  | some t => TreeAt H v t
def WAll (H : Hp) : List V → List (Option T) → Prop
  | [], [] => True
  | v :: vs, t :: ts => WAt H v t ∧ WAll H vs ts
  | _, _ => False
theorem WAll.length {H : Hp} : ∀ {vs : List V} {ts : List (Option T)}, WAll H vs ts → vs.length = ts.length
  | [], [], _ => rfl
  | _ :: _, _ :: _, h => by simp [h.2.length]
theorem WAll.append {H : Hp} : ∀ {vs ws : List V} {ts us : List (Option T)}, WAll H vs ts → WAll H ws us → WAll H (vs ++ ws) (ts ++ us)
  | [], _, [], _, _, q => q
  | _ :: _, _, _ :: _, _, h, q => ⟨h.1, h.2.append q⟩
theorem WAll.snoc {H : Hp} : ∀ {vs : List V} {v : V} {ts : List (Option T)}, WAll H (vs ++ [v]) ts → ∃ us u, ts = us ++ [u] ∧ WAll H vs us ∧ WAt H v u
  | [], _, [u], h => ⟨[], u, rfl, trivial, h.1⟩
  | [], _, _ :: _ :: _, h => h.2.elim
  | _ :: vs, _, t :: ts, h => by
    obtain ⟨us, u, rfl, h1, h2⟩ := WAll.snoc (vs := vs) h.2
    exact ⟨t :: us, u, rfl, ⟨h.1, h1⟩, h2⟩
def oPost : Option T → List (Option Str)
  | none => [none]
  | some t => t.post
/-- what waiting parts give, the last first -/
def posts : List (Option T) → List (Option Str)
  | [] => []
  | t :: ts => posts ts ++ oPost t
theorem posts_app : ∀ ts us : List (Option T), posts (ts ++ us) = posts us ++ posts ts
  | [], us => by simp [posts]
  | t :: ts, us => by simp only [List.cons_append, posts, posts_app ts us, List.append_assoc]
def T.pz : T → Nat
  | .leaf _ => 1
  | .node l r => 2 + l.pz + r.pz
def oPz : Option T → Nat
  | none => 1
  | some t => t.pz
def pzs : List (Option T) → Nat
  | [] => 0
  | t :: ts => oPz t + pzs ts
theorem pzs_app : ∀ ts us : List (Option T), pzs (ts ++ us) = pzs ts + pzs us
  | [], us => by simp [pzs]
  | t :: ts, us => by
    simp only [List.cons_append, pzs, pzs_app ts us]
    omega
theorem T.pz_pos (t : T) : 1 ≤ t.pz := by
  cases t <;> simp only [T.pz] <;> omega
theorem pzs_len : ∀ ts : List (Option T), ts.length ≤ pzs ts
  | [] => Nat.le_refl _
  | t :: ts => by
    have := pzs_len ts
    have : 1 ≤ oPz t := by
      cases t with
      | none => exact Nat.le_refl _
      | some t => exact t.pz_pos
    simp only [List.length_cons, pzs]
    omega
theorem T.pz_size (t : T) : t.pz + 1 ≤ 2 * t.size := by
  induction t with
  | leaf x => simp [T.pz, T.size]
  | node l r h1 h2 =>
    simp only [T.pz, T.size]
    omega
theorem T.post_len (t : T) : t.post.length ≤ t.pz := by
  induction t with
  | leaf x => simp [T.post, T.pz]
  | node l r h1 h2 =>
    simp only [T.post, T.pz, List.length_append, List.length_singleton]
    omega
def spPost : Sp := fun vs H Q _ => ∃ (v : V) (t : T), vs = [v] ∧ TreeAt H v t ∧ t.size ≤ 1000000 ∧ ∀ (p : Addr) (H' : Hp), H p = none → H' p = some (.lst (t.post.map oV)) → Same H H' → Q (.ref p) H'
section
variable {P : Program} {w : World} {K : PySem.W.Frag} {mg : Str → Option Value} {base : Heap}
abbrev nPost : List Str := ["tree", "found", "waiting", "part", "left", "right"]
theorem scPost : FnScope nPost ["tree"] (defScope sPost) := ⟨rfl, rfl, rfl, by decide +kernel, rfl, by decide +kernel, by decide +kernel⟩
theorem ok_post {f : Addr} {fd : FuncData} (F : Fun K "in_postfix" "in_postfix" sPost f fd) (gIsi : mg "isinstance" = none) (gStr : mg "str" = none) :
    FnOk P w K mg base CX0 1 f fd ["tree"] spPost := by
  refine F.ok scPost (fun vs H Q E h => ?_) (fun cdv A outer s H vs Q E hr h => ?_)
  · obtain ⟨v, t, rfl, _⟩ := h
    rfl
  · obtain ⟨v, t, rfl, ht, hn, k⟩ := h
    refine ⟨_, (pss_cons (ps_set (i := 1) scPost.nd rfl (Or.inl rfl) (pe_lst pa_nil))
      (pss_cons (ps_set (i := 2) scPost.nd rfl (Or.inl rfl) (pe_lst (pa_cons (pv 0) pa_nil)))
      (pss_cons (ps_while PassesOwn.never (pt_truth (pv 2) (by intro _; rfl)) (pss_cons (ps_set (i := 3) scPost.nd rfl (Or.inl rfl) (pe_bm0 PySem.F.plainAttrs_list PySem.F.slot_list_pop PySem.F.type_list_pop mt_pop (pv 2)))
      (pss_one (ps_if (PW.pt (pw_or (pt_cmpR op_isN (pv 3) pe_non (nomark _)) (pw_or1 (pt_val (pe_callB call_isi (by rfl) gIsi (by decide +kernel) (pa_cons (pv 3) (pa_cons (pe_bltn (v := .ty "str") (by rfl) gStr (by decide +kernel) rfl) pa_nil))))))) (pss_one (ps_expr (pe_bm PySem.F.plainAttrs_list PySem.F.slot_list_append PySem.F.type_list_append mt_append (pv 1) (pa_cons (pv 3) pa_nil)))) (pss_cons (ps_asg (pv 3) (pg_tup rfl (pgs_cons (pg_name (i := 4) scPost.nd rfl (Or.inl rfl)) (pgs_cons (pg_name (i := 5) scPost.nd rfl (Or.inl rfl)) pgs_nil))))
      (pss_one (ps_expr (pe_bm PySem.F.plainAttrs_list PySem.F.slot_list_extend PySem.F.type_list_extend mt_extend (pv 2) (pa_cons (pe_lst (pa_cons pe_non (pa_cons (pv 5) (pa_cons (pv 4) pa_nil)))) pa_nil)))))))))
      (pss_one (ps_ret (pv 1)))))), ?_⟩
    refine ⟨(by show 0 ≤ sizeLine; decide), fun rl hrl => ?_⟩
    refine ⟨_, rfl, (by show 1 ≤ sizeLine; decide), fun wl hw => ?_⟩
    have s0 : Same H (upd H rl (.lst [])) := Same.new hrl
    have hwH : H wl = none := s0.free hw
    have nrw : rl ≠ wl := fun z => by
      rw [← z, upd_same] at hw
      cases hw
    have bp : t.post.length ≤ 2000000 := by
      have := t.post_len
      have := t.pz_size
      omega
    refine ⟨fun m σ H1 => ∃ (vs : List V) (ts : List (Option T)) (acc : List (Option Str)) (o3 o4 o5 : Option V), σ = [some v, some (.ref rl), some (.ref wl), o3, o4, o5] ∧ H1 wl = some (.lst vs) ∧ H1 rl = some (.lst (acc.map oV)) ∧
        WAll H vs ts ∧ pzs ts = m ∧ m ≤ 2000000 ∧ t.post = acc ++ posts ts ∧ Same H H1,
      ⟨pzs [some t], [v], [some t], [], none, none, none, rfl, upd_same, ?_, ⟨ht, trivial⟩, rfl, ?_, ?_, s0.trans (Same.new hw)⟩, ?_⟩
    · rw [upd_ne nrw, upd_same]
      rfl
    · have := t.pz_size
      simp only [pzs, oPz]
      omega
    · simp [posts, oPost]
    rintro m σ H1 ⟨vs, ts, acc, o3, o4, o5, rfl, a1, b1, a2, a3, a4, a5, a7⟩
    refine ⟨_, rfl, !vs.isEmpty, Or.inl ⟨vs, SqL.of a1, rfl⟩, ?_⟩
    rcases List.eq_nil_or_concat vs with rfl | ⟨ini, last, rfl⟩
    · have e : ts = [] := by
        cases ts with
        | nil => rfl
        | cons _ _ => exact a2.elim
      subst e
      refine ⟨_, rfl, k rl _ hrl ?_ a7⟩
      rw [b1, a5]
      simp [posts]
    · rw [List.concat_eq_append] at *
      obtain ⟨es, e, rfl, h1, h2⟩ := a2.snoc
      have nz : (!(ini ++ [last]).isEmpty) = true := by simp
      show if (!(ini ++ [last]).isEmpty) = true then _ else _
      rw [if_pos nz]
      refine ⟨_, fun _ _ z => z, ?_⟩
      refine ⟨_, rfl, Or.inl ⟨rfl, _, SqL.of a1⟩, wl, _, last, rfl, rfl, a1, by simp, ?_⟩
      rw [List.dropLast_concat]
      have s2 : Same H (upd H1 wl (.lst ini)) := Same.newer hwH a7
      have b2 : (upd H1 wl (.lst ini)) rl = some (.lst (acc.map oV)) := by
        rw [upd_ne nrw]
        exact b1
      have al : acc.length ≤ 2000000 := by
        have := congrArg List.length a5
        rw [List.length_append] at this
        omega
      have il : ini.length ≤ 2000000 := by
        have e1 := h1.length
        have e2 := pzs_len es
        rw [← a3, pzs_app] at a4
        omega
      have ap : ∀ (u : Option Str) (o3 : Option V), oPost e = [u] → last = oV u → ∃ m' < m, ∃ (vs : List V) (ts : List (Option T)) (acc' : List (Option Str)) (o3' o4' o5' : Option V), [some v, some (.ref rl), some (.ref wl), some last, o4, o5] = [some v, some (.ref rl), some (.ref wl), o3', o4', o5'] ∧ (upd (upd H1 wl (.lst ini)) rl (.lst (acc.map oV ++ [last]))) wl = some (.lst vs) ∧ (upd (upd H1 wl (.lst ini)) rl (.lst (acc.map oV ++ [last]))) rl = some (.lst (acc'.map oV)) ∧
        WAll H vs ts ∧ pzs ts = m' ∧ m' ≤ 2000000 ∧ t.post = acc' ++ posts ts ∧ Same H (upd (upd H1 wl (.lst ini)) rl (.lst (acc.map oV ++ [last]))) := fun u o3 ep el => by
        have p1 : 1 ≤ oPz e := by
          cases e with
          | none => exact Nat.le_refl _
          | some t => exact t.pz_pos
        rw [pzs_app, pzs, pzs] at a3
        refine ⟨pzs es, by omega, ini, es, acc ++ [u], _, _, _, rfl, ?_, ?_, h1, rfl, by omega, ?_, Same.newer hrl s2⟩
        · rw [upd_ne nrw.symm, upd_same]
        · rw [upd_same, List.map_append, el]
          rfl
        · rw [a5, posts_app]
          simp [posts, ep]
      have na : (acc.map oV).length < sizeLine := by
        rw [List.length_map, sizeLine_eq]
        omega
      cases e with
      | none =>
        cases (show last = V.non from h2)
        refine ⟨_, rfl, rfl, _, rfl, ?_⟩
        refine iteT ?_
        exact ⟨_, rfl, Or.inl ⟨rfl, _, SqL.of b2⟩, _, rfl, rl, _, _, rfl, rfl, b2, na, ap none none rfl rfl⟩
      | some e =>
        cases e with
        | leaf x =>
          cases (show last = V.str x from h2)
          refine ⟨_, rfl, rfl, _, rfl, ?_⟩
          refine iteF ?_
          refine ⟨_, rfl, .str x, .ty "str", _, _, _, rfl, ClsV.ty "str", .base (.str x), kit_str (.str x), _, rfl, ?_⟩
          refine iteT ?_
          exact ⟨_, rfl, Or.inl ⟨rfl, _, SqL.of b2⟩, _, rfl, rl, _, _, rfl, rfl, b2, na, ap (some x) none rfl rfl⟩
        | node l r =>
          obtain ⟨p, va, vc, rfl, hp, hl, hr'⟩ := (show TreeAt H last (.node l r) from h2)
          have hp2 := s2 _ _ hp
          refine ⟨_, rfl, rfl, _, rfl, ?_⟩
          refine iteF ?_
          refine ⟨_, rfl, .ref p, .ty "str", _, _, _, rfl, ClsV.ty "str", .base (.tup hp2), kit_str (.tuple []), _, rfl, ?_⟩
          refine iteF ?_
          refine ⟨_, rfl, p, _, rfl, SqT.of hp2, rfl, _, _, rfl, _, _, rfl, rfl, ?_⟩
          refine ⟨_, rfl, Or.inl ⟨rfl, _, SqL.of upd_same⟩, _, rfl, _, rfl, (by show 3 ≤ sizeLine; decide), fun q hq => ?_⟩
          have nwq : wl ≠ q := fun z => by
            rw [← z, upd_same] at hq
            cases hq
          have nrq : rl ≠ q := fun z => by
            rw [← z, b2] at hq
            cases hq
          have w3 : (upd (upd H1 wl (.lst ini)) q (.lst [.non, vc, va])) wl = some (.lst ini) := by
            rw [upd_ne nwq, upd_same]
          refine ⟨wl, q, ini, [.non, vc, va], rfl, rfl, w3, upd_same, ?_, ?_⟩
          · rw [sizeLine_eq]
            show ini.length + 3 ≤ _
            omega
          · have e3 : pzs (es ++ [none, some r, some l]) < m ∧ pzs (es ++ [none, some r, some l]) ≤ 2000000 := by
              rw [pzs_app] at a3 ⊢
              simp only [pzs, oPz, T.pz] at a3 ⊢
              omega
            refine ⟨_, e3.1, ini ++ [.non, vc, va], es ++ [none, some r, some l], acc, some (.ref p), some va, some vc, rfl, upd_same, ?_, h1.append ⟨rfl, hr', hl, trivial⟩, rfl, e3.2, ?_, Same.newer hwH (s2.trans (Same.new hq))⟩
            · rw [upd_ne nrw, upd_ne nrq]
              exact b2
            · rw [a5, posts_app, posts_app]
              simp [posts, oPost, T.post]
end
end K89
namespace K89
open PySem PySem.Spec PyProof.Rows L2 Vr
abbrev sLeaves : Stmt := top 13
def someS : List (Option Str) → List Str
  | [] => []
  | none :: r => someS r
  | some x :: r => x :: someS r
theorem someS_app : ∀ a b : List (Option Str), someS (a ++ b) = someS a ++ someS b
  | [], b => rfl
  | none :: r, b => someS_app r b
  | some x :: r, b => by
    show x :: someS (r ++ b) = x :: (someS r ++ someS b)
    rw [someS_app r b]
theorem T.post_row (t : T) : someS t.post = t.row := by
  induction t with
  | leaf x => rfl
  | node l r h1 h2 =>
    simp only [T.post, T.row, someS_app, h1, h2]
    simp [someS]
theorem someS_len : ∀ a : List (Option Str), (someS a).length ≤ a.length
  | [] => Nat.le_refl _
  | none :: r => Nat.le_succ_of_le (someS_len r)
  | some x :: r => Nat.succ_le_succ (someS_len r)
def spLeaves : Sp := fun vs H Q _ => ∃ (v : V) (t : T), vs = [v] ∧ TreeAt H v t ∧ t.size ≤ 1000000 ∧ ∀ (p : Addr) (H' : Hp), H p = none → H' p = some (.tup (t.row.map V.str)) → Same H H' → Q (.ref p) H'
section
variable {P : Program} {w : World} {K : PySem.W.Frag} {mg : Str → Option Value} {base : Heap}
abbrev nLeaves : List Str := ["tree", "name"]
theorem scLeaves : FnScope nLeaves ["tree"] (defScope sLeaves) := ⟨rfl, rfl, rfl, by decide +kernel, rfl, by decide +kernel, by decide +kernel⟩
theorem ok_leaves {f fP : Addr} {fd fdP : FuncData} (F : Fun K "leaves" "leaves" sLeaves f fd) (GP : FnOk P w K mg base CX0 1 fP fdP ["tree"] spPost) (bP : Binds K fdP ["tree"] []) (mP : mg "in_postfix" = some (.ref fP)) (kP : PySem.W.keepIn K (.ref fP) = true) (gTuple : mg "tuple" = none) :
    FnOk P w K mg base CX0 2 f fd ["tree"] spLeaves := by
  refine F.ok scLeaves (fun vs H Q E h => ?_) (fun cdv A outer s H vs Q E hr h => ?_)
  · obtain ⟨v, t, rfl, _⟩ := h
    rfl
  · obtain ⟨v, t, rfl, ht, hn, k⟩ := h
    have r1 : Room 1 _ := hr
    refine ⟨_, (pss_one (ps_ret (pe_callTy call_tuple_of (by rfl) gTuple (by decide +kernel) (pa_cons (pe_lc (own := [("name", 1)]) (g := gName 1) (tt := tTest (tOp (fun x y H Q => y = V.non ∧ Q (.bl (!decide (x = V.non))) H) (tVar 1) (tC V.non))) rfl scLeaves.nd (pi_list (pe_call GP r1 (by rfl) mP kP bP .nil pass0 (pa_cons (pv 0) pa_nil))) (blkOk_by (N := nLeaves) (sc := defScope sLeaves) (by decide +kernel)) (fun _ _ _ _ _ => pg_name (i := 1) scLeaves.nd rfl (Or.inl rfl)) (fun _ _ _ _ _ => pts_one (pt_cmpR op_notN (pv 1) pe_non (nomark _))) (fun _ _ _ _ _ => (pv 1))) pa_nil)))), ?_⟩
    refine ⟨_, rfl, v, t, rfl, ht, hn, fun l H1 nl hl s1 => ?_⟩
    have pl := t.post_len
    have pz := t.pz_size
    have pm : (t.post.map oV).length = t.post.length := List.length_map _
    refine ⟨l, rfl, ⟨_, SqL.of hl⟩, fun D hD => ?_⟩
    refine lc_it walk_list (fun i H2 => H2 D = some (.lst ((someS (t.post.take i)).map V.str)) ∧ Same H1 H2) ⟨by rw [upd_same]; rfl, Same.new hD⟩ (fun i H2 _ z => SqL.of (z.2 _ _ hl)) ?_ ?_
    · intro i y H2 H3 hi ⟨a1, a2⟩ ⟨e1, ex⟩
      subst e1
      rw [List.getElem?_map] at ex
      have sl : (someS (t.post.take i)).length ≤ t.post.length := by
        have := someS_len (t.post.take i)
        rw [List.length_take] at this
        omega
      cases hx : t.post[i]? with
      | none =>
        rw [hx] at ex
        cases ex
      | some o =>
        rw [hx] at ex
        cases ex
        have tk : t.post.take (i + 1) = t.post.take i ++ [o] := by
          rw [List.take_add_one, hx]
          rfl
        cases o with
        | none =>
          refine ⟨rfl, _, rfl, rfl, _, rfl, ?_⟩
          refine iteF ?_
          refine ⟨?_, a2⟩
          rw [tk, someS_app, a1]
          simp [someS]
        | some x =>
          refine ⟨rfl, _, rfl, rfl, _, rfl, ?_⟩
          refine iteT ?_
          refine ⟨_, rfl, _, a1, ?_, ?_, Same.newer hD a2⟩
          · rw [List.length_map, sizeLine_eq]
            omega
          · rw [upd_same, tk, someS_app, List.map_append]
            rfl
    · intro H2 ⟨a1, a2⟩
      rw [pm, List.take_length, T.post_row] at a1
      refine ⟨D, _, rfl, Or.inl ⟨SqL.of a1, fun p hp => ?_⟩⟩
      have s2 := s1.trans a2
      exact k p _ (s2.free hp) upd_same (s2.trans (Same.new hp))
end
end K89
namespace BK
open PySem PySem.Spec PyProof.Rows L2
/-! ### y in o, o an instance whose class has an own __contains__ -/
section
variable {X : Cx} {C g : Addr} {fd : FuncData} {ps : List Str} {sp : Sp} {E : XK} {k : Nat} {CXs : CXT}
def rOwnIn (C : Addr) (sp : Sp) (E : XK) (neg : Bool) : R2 := fun x y H Q => ∃ (b dx : Addr) (fs : List (Str × V)), y = .ref b ∧ H b = some (.ins C dx fs) ∧ sp [y, x] H (fun r H' => ∃ c, r = .bl c ∧ Q (.bl (neg.xor c)) H') E
theorem op_inOwn (hs : PySem.W.findIn X.K (.ref C) "__contains__" = some (some (.ref g))) (hf : PySem.W.isFn X.K (.ref g) = true) (F : FnOk X.prog X.w X.K X.mg X.base CXs k g fd ps sp) (hr : Room k X.A) (hb : Binds X.K fd ps []) (hx : Passes CXs X E) :
    OpR X (compareOp .In) (rOwnIn C sp E false) := by
  intro pins s σ H x y v u Q I rx ry h
  obtain ⟨b, dx, fs, rfl, hb1, q⟩ := h
  cases (show u = Value.ref b from ry)
  obtain ⟨mA, O, _⟩ := ins_get I.hok hb1
  obtain ⟨od, J, _⟩ := O.look
  obtain ⟨m, hF⟩ := I.fr
  refine PySem.W.in_K hF I.ok.mod.kin J hs hf (wpAny_mono (run_fn (us := [.ref b, v]) (vs := [.ref b, x]) (dvs := []) (ds := []) F hr hb .nil hx I (.cons rfl (.cons rx .nil)) q) (fun r s' z => ?_) fun _ _ x => x)
  obtain ⟨z', H', I', rz, c, ec, q'⟩ := z
  subst ec
  cases (show r = Value.bool c from rz)
  refine wpAny_truthy_bool ⟨.bl c, H', I', rfl, ?_⟩
  simpa using q'
theorem op_notInOwn (hs : PySem.W.findIn X.K (.ref C) "__contains__" = some (some (.ref g))) (hf : PySem.W.isFn X.K (.ref g) = true) (F : FnOk X.prog X.w X.K X.mg X.base CXs k g fd ps sp) (hr : Room k X.A) (hb : Binds X.K fd ps []) (hx : Passes CXs X E) :
    OpR X (compareOp .NotIn) (rOwnIn C sp E true) := by
  intro pins s σ H x y v u Q I rx ry h
  obtain ⟨b, dx, fs, rfl, hb1, q⟩ := h
  cases (show u = Value.ref b from ry)
  obtain ⟨mA, O, _⟩ := ins_get I.hok hb1
  obtain ⟨od, J, _⟩ := O.look
  obtain ⟨m, hF⟩ := I.fr
  refine PySem.W.notIn_K hF I.ok.mod.kin J hs hf (wpAny_mono (run_fn (us := [.ref b, v]) (vs := [.ref b, x]) (dvs := []) (ds := []) F hr hb .nil hx I (.cons rfl (.cons rx .nil)) q) (fun r s' z => ?_) fun _ _ x => x)
  obtain ⟨z', H', I', rz, c, ec, q'⟩ := z
  subst ec
  cases (show r = Value.bool c from rz)
  refine wpAny_truthy_bool ⟨.bl (!c), H', I', rfl, ?_⟩
  simpa using q'
end
/-! ### enumerate(tuple) -/
section
theorem enum_new {v : Value} {o : Obj} {Hq : Heap → Prop} (B : Begins v o Hq) :
    Meets (Builtin.«enumerate.__new__» ⟨[.type "enumerate", v], []⟩) (fun _ R s => Hq s.heap ∧
      R (.ok (.ret (.ref (s.heap.push o).objs.size))) { s with heap := (s.heap.push o).push { cls := .type "enumerate", data := .fields #[.none, .bool false, .ref s.heap.objs.size, rawInt 0, .none, .none] } }) :=
  .of_wp fun prog w A R s h => by
    obtain ⟨hp, g, d, tk, os⟩ := s
    obtain ⟨h1, h⟩ := h
    have hsub := sub_enumerate
    have q1 : ∀ {A' : Around} {E : Value → Shared → Prop} {Q : Value → Shared → Prop}, Q (.ref hp.objs.size) ⟨hp.push o, g, d, tk, os⟩ → wpAny (model prog w) A' (pyIter v) Q E ⟨hp, g, d, tk, os⟩ :=
      fun q => B.iter prog w _ _ ⟨hp, g, d, tk, os⟩ _ h1 q
    wp_walk using q1
    refine wpAny_stack_any fun st => wpAny_pure ?_
    split
    · rename_i c _ _ _ _ _
      cases (c == Value.type "enumerate")
      · wp_walk using q1
        exact ⟨_, rfl, h⟩
      · wp_walk using q1
        exact ⟨_, rfl, h⟩
    · wp_walk using q1
      exact ⟨_, rfl, h⟩
variable {prog : Program} {w : World} {A : Around} {E : Value → Shared → Prop} {s : Shared}
theorem enum_call {v : Value} {o : Obj} {Hq : Heap → Prop} {Q : Value → Shared → Prop} (B : Begins v o Hq) (h1 : Hq s.heap)
    (h : ∀ h', IsEnum h' (s.heap.objs.size + 1) s.heap.objs.size 0 .none → h'.get? s.heap.objs.size = some o → h'.objs.size = s.heap.objs.size + 2 →
      (∀ b o, s.heap.get? b = some o → h'.get? b = some o) → Q (.ref (s.heap.objs.size + 1)) { s with heap := h' }) :
    wpAny (model prog w) A (call (.type "enumerate") [v]) Q E s := by
  refine callType_new F.called_enumerate (by decide) (F.typeCall_enumerate_1 _) (F.newCall_enumerate_1 _) (fun obj => F.args_object_init_2 obj _) F.entry_enumerate_new (enum_new B) ⟨h1, ?_⟩
  have hz : (s.heap.push o).objs.size = s.heap.objs.size + 1 := Heap.size_push ..
  show _ ∧ _
  rw [hz]
  have he : IsEnum ((s.heap.push o).push { cls := .type "enumerate", data := .fields #[.none, .bool false, .ref s.heap.objs.size, rawInt 0, .none, .none] }) (s.heap.objs.size + 1) s.heap.objs.size 0 .none := by
    have := Heap.get?_push_size (s.heap.push o) (o := { cls := .type "enumerate", data := .fields #[.none, .bool false, .ref s.heap.objs.size, rawInt 0, .none, .none] }) rfl
    rw [hz] at this
    exact this
  refine ⟨⟨_, he, rfl⟩, h _ he (Heap.get?_push_of_some _ (Heap.get?_push_size _ B.free)) (by rw [Heap.size_push, hz]) fun b o x => Heap.get?_push_of_some _ (Heap.get?_push_of_some _ x)⟩
end
/-- the tuple at a as it stands at each turn, each item in a new pair -/
def Jte (K : PySem.W.Frag) (a : Addr) : It :=
  ⟨fun i H => ∃ (xs : List V) (x : V), SqT K H a xs ∧ xs[i]? = some x, fun i H v H' => ∃ T x, v = .ref T ∧ H T = none ∧ H' = upd H T (.tup [.int (i : Nat), x]) ∧ ∀ xs, SqT K H a xs → xs[i]? = some x, fun i H => ∃ xs : List V, SqT K H a xs ∧ xs.length ≤ i⟩
theorem turn_te {P : Program} {w : World} {K : PySem.W.Frag} {elts : List Expr} {kk : Nat} {tpos : Pos} (a e it : Addr) :
    Turn P w K (.Tuple elts kk tpos) (Jte K a) [e, it] e (fun i h => (∃ old, IsEnum h e it ((i : Nat) : Int) old) ∧ h.IsTupleIter it a i ∧ e ≠ it ∧ e ≠ a ∧ a ≠ it) where
  mem := by simp
  obj := fun i h st b hb => by
    obtain ⟨⟨old, he⟩, ⟨o, ho, hc, hd⟩, _⟩ := st
    have e' : b = e ∨ b = it := by simpa using hb
    rcases e' with z | z
    · rw [z]; exact ⟨_, he, fun v q => nomatch q⟩
    · rw [z]; exact ⟨o, ho, fun v q => by rw [hd] at q; cases q⟩
  keep := fun i h h' st k => let ⟨⟨old, he⟩, hi, hne⟩ := st; ⟨⟨old, k e (by simp) _ he⟩, hi.at fun o q => k it (by simp) o q, hne⟩
  item := by
    intro X hP hw hK hc i pins s σ H E I hf st hg
    subst hP hw hK
    obtain ⟨⟨old, he⟩, hit, hne, hea, hai⟩ := st
    obtain ⟨xs, x, hq, hx⟩ := hg
    obtain ⟨its, rv, p, hz⟩ := I.tuple hq
    obtain ⟨u, hu, ru⟩ := rv.get hx
    have hel : e < s.heap.objs.size := Heap.lt_size he
    have hil : it < s.heap.objs.size := by obtain ⟨_, q, _⟩ := hit; exact Heap.lt_size q
    have pT : s.heap.IsTuple a its.toArray := p
    have hi : i < its.toArray.size := by
      have := (List.getElem?_eq_some_iff.mp hu).1
      simpa using this
    have D := Draws.tuple (prog := X.prog) (w := X.w) (A := X.A.in1) (by exact I.ok.hd hc) it a hai its.toArray
    refine wpAny_pyNext_enum_itemD D he ⟨hit, pT⟩ hi hne (by simp [hne, hea]) fun x' h' tk hPx ho hst' hT hsz hk => ?_
    have ex : x' = u := by
      have : its[i]? = some x' := by simpa using hPx
      rw [hu] at this
      cases this
      rfl
    subst ex
    refine ⟨_, rfl, wpAny_letOwnedTupleGo_enum (s := { s with heap := h', toks := tk + 1 }) ho fun h'' he' sb => ?_⟩
    have hT2 : h''.get? s.heap.objs.size = some { cls := .type "tuple", data := .seq #[.int i tk, x'] } := (sb.2 _ (Nat.ne_of_gt hel)).trans hT
    have new : ObjOk X.prog X.w (upd H s.heap.objs.size (.tup [.int (i : Nat), x])) h'' s.heap.objs.size (.tup [.int (i : Nat), x]) :=
      ⟨by show 2 ≤ sizeLine; decide, [.int i tk, x'], .cons ⟨_, rfl⟩ (.cons ru .nil), ⟨_, hT2, rfl, _, rfl⟩⟩
    have I1 : Inv X pins σ (upd H s.heap.objs.size (.tup [.int (i : Nat), x])) { s with heap := h'', toks := tk + 1 } :=
      I.turnedNew (ch := [e, it]) (fun b ob hb q => (sb.2 b (fun z => hb (by simp [z]))).trans (hk b ob (fun z => hb (by simp [z])) (fun z => hb (by simp [z])) q)) hf (Nat.le_refl _) new
    refine ⟨.ref s.heap.objs.size, _, I1, rfl, ⟨_, x, rfl, I.hok.fresh (Nat.le_refl _), rfl, fun ys hy => by rw [I.tuple_inj hy hq]; exact hx⟩, ⟨⟨x', ?_⟩, hst'.1.at fun o q => (sb.2 it (Ne.symm hne)).trans q, hne, hea, hai⟩, fun b hb => ?_⟩
    · have e1 : ((i + 1 : Nat) : Int) = (i : Int) + 1 := by omega
      rw [e1]; exact he'
    · have hb' : b < s.heap.objs.size := by
        have e' : b = e ∨ b = it := by simpa using hb
        rcases e' with z | z
        · rw [z]; exact hel
        · rw [z]; exact hil
      rw [upd_ne (Nat.ne_of_lt hb')]
      exact (hf b hb).1
  done := by
    intro X hP hw hK hc i pins s σ H E I hf st hg
    subst hP hw hK
    obtain ⟨⟨old, he⟩, hit, hne, hea, hai⟩ := st
    obtain ⟨xs, hq, hx⟩ := hg
    obtain ⟨its, rv, p, hz⟩ := I.tuple hq
    obtain ⟨f0, f1, f2, f3, f4, f5⟩ := hf it (by simp)
    have hl := rv.length
    have pT : s.heap.IsTuple a its.toArray := p
    have hT : s.TypeIs (.ref e) "enumerate" := ⟨_, he, rfl⟩
    unfold pyNext
    refine wpAny_bind (wpAny_attempt (wpAny_callSpecial?_slot (name := Str.ofString "__next__") hT PySem.F.slot_enumerate_next
      (wpAny_call_entry PySem.F.slot_enumerate_next hT PySem.F.entry_enumerate_next ?_ (PySem.F.args_enumerate_next_1 _))))
    show wpAny _ _ (field (.ref e) 2 >>= _) _ _ _
    refine wpAny_bind (wpAny_field he rfl (x := .ref it) rfl ?_)
    refine wpAny_bind (wpAny_nextOf_tuple_end (by exact I.ok.hd hc) hit pT (by simp; omega) fun h' x eb hx' => ?_)
    obtain ⟨o, ho, hc'⟩ := hx'
    refine wpAny_bind (wpAny_isInstance (T := "StopIteration") (b := true) ⟨o, ho, hc'⟩ isSubtype_stop ?_)
    exact wpAny_pure ⟨rfl, I.turned (t' := s.toks) (fun b o hb q => eb b o hb q) f0 f1 f3 f4 f5⟩
  self := fun A i s Q E st h => let ⟨⟨_, he⟩, _⟩ := st; wpAny_pyIter_enum he h
def iEnumT (K : PySem.W.Frag) (ta : TA) : TI := fun σ H R => ta σ H fun vs H1 => ∃ a xs, vs = [.ref a] ∧ SqT K H1 a xs ∧ R (Jte K a) H1
theorem pi_enumT {X : Cx} {e : Expr} {ta : TA} {p pos tpos : Pos} {elts : List Expr} {kk : Nat} (hg : Gl X "enumerate") (hm : X.mg "enumerate" = none) (ha : PA X [e] ta) (hs : starEach [e] X.env = [(false, eval e X.env)] := by rfl) :
    PI X (.Tuple elts kk tpos) (.Call (.Name "enumerate" p) [e] [] pos) (iEnumT X.K ta) := by
  refine ⟨fun pins s σ H R I h => ?_⟩
  refine Call_ (ld_blt I hg hm boot_enumerate (PyProof.Rows.callWith_type1 (thn (ha.run pos pins s σ H _ I h) fun us s1 ⟨vs, H1, I1, r1, q1⟩ => ?_) hs rfl))
  obtain ⟨a, xs, ex, hq, q⟩ := q1
  subst ex
  cases r1 with
  | cons r rr =>
    cases rr
    cases r
    obtain ⟨its, rv, p', hz⟩ := I1.tuple hq
    have pT : s1.heap.IsTuple a its.toArray := p'
    have hal : a < s1.heap.objs.size := by
      obtain ⟨o, ho, _⟩ := p'
      exact Heap.lt_size ho
    refine enum_call (begins_tuple a its.toArray) pT fun h' he hit hsz hk => wpAny_pyIter_enum he ?_
    have I2 : Inv X pins σ H1 { s1 with heap := h' } := I1.kept (t' := s1.toks) hk
    refine ⟨s1.heap.objs.size + 1, [s1.heap.objs.size + 1, s1.heap.objs.size], _, _, H1, rfl, I2, turn_te a (s1.heap.objs.size + 1) s1.heap.objs.size, ⟨⟨.none, he⟩, ⟨_, hit, rfl, rfl⟩, Nat.succ_ne_self _, ?_, Nat.ne_of_lt hal⟩, fun b hb => ?_, q⟩
    · intro z
      have z : s1.heap.objs.size + 1 = a := z
      rw [← z] at hal
      exact absurd (Nat.lt_of_succ_lt hal) (Nat.lt_irrefl _)
    have e' : b = s1.heap.objs.size + 1 ∨ b = s1.heap.objs.size := by simpa using hb
    have hle : s1.heap.objs.size ≤ b := by
      rcases e' with z | z
      · rw [z]; exact Nat.le_add_right _ _
      · rw [z]; exact Nat.le_refl _
    exact I1.fpOk hle (I1.hok.fresh hle)
theorem walk_te {K : PySem.W.Frag} {a : Addr} {xs : List V} : Walk (Jte K a) xs.length (fun H => SqT K H a xs) (YPair (fun i => some (.int (i : Nat))) (fun i => xs[i]?)) := by
  refine ⟨fun i _ hi q => ⟨xs, xs[i], q, by simp [hi]⟩, fun _ q => ⟨xs, q, Nat.le_refl _⟩, fun i H v H' _ q y => ?_⟩
  obtain ⟨T, x, h1, h2, h3, h4⟩ := y
  exact ⟨T, .int (i : Nat), x, h1, h2, h3, rfl, h4 xs q⟩
end BK
namespace BK
open PySem PySem.Spec PyProof.Rows L2 Vr
/-! ### data -/
mutual
inductive DatAt (H : Hp) : V → PyData → Prop
  | non : DatAt H .non .none
  | bl (b : Bool) : DatAt H (.bl b) (.bool b)
  | int (i : Int) : DatAt H (.int i) (.int i)
  | str (x : Str) : DatAt H (.str x) (.str x)
  | lst {a : Addr} {xs : List V} {ds : List PyData} : H a = some (.lst xs) → DatAll H xs ds → DatAt H (.ref a) (.list ds)
  | tup {a : Addr} {xs : List V} {ds : List PyData} : H a = some (.tup xs) → DatAll H xs ds → DatAt H (.ref a) (.tuple ds)
inductive DatAll (H : Hp) : List V → List PyData → Prop
  | nil : DatAll H [] []
  | cons {v : V} {vs : List V} {d : PyData} {ds : List PyData} : DatAt H v d → DatAll H vs ds → DatAll H (v :: vs) (d :: ds)
end
section
variable {H H' : Hp} {K : PySem.W.Frag}
mutual
theorem DatAt.dp : ∀ {v : V} {d : PyData}, DatAt H v d → Dp K H v d
  | _, _, .non => .non
  | _, _, .bl b => .bl b
  | _, _, .int i => .int i
  | _, _, .str x => .str x
  | _, _, .lst h r => .lst (SqL.of h) r.dp
  | _, _, .tup h r => .tup (SqT.of h) r.dp
theorem DatAll.dp : ∀ {vs : List V} {ds : List PyData}, DatAll H vs ds → DpAll K H vs ds
  | _, _, .nil => .nil
  | _, _, .cons h r => .cons h.dp r.dp
end
mutual
theorem DatAt.keep (k : ∀ p xs, (H p = some (.tup xs) → H' p = some (.tup xs)) ∧ (H p = some (.lst xs) → H' p = some (.lst xs))) : ∀ {v : V} {d : PyData}, DatAt H v d → DatAt H' v d
  | _, _, .non => .non
  | _, _, .bl b => .bl b
  | _, _, .int i => .int i
  | _, _, .str x => .str x
  | _, _, .lst h r => .lst ((k _ _).2 h) (DatAll.keep k r)
  | _, _, .tup h r => .tup ((k _ _).1 h) (DatAll.keep k r)
theorem DatAll.keep (k : ∀ p xs, (H p = some (.tup xs) → H' p = some (.tup xs)) ∧ (H p = some (.lst xs) → H' p = some (.lst xs))) : ∀ {vs : List V} {ds : List PyData}, DatAll H vs ds → DatAll H' vs ds
  | _, _, .nil => .nil
  | _, _, .cons h r => .cons (DatAt.keep k h) (DatAll.keep k r)
end
theorem DatAt.same {v : V} {d : PyData} (h : DatAt H v d) (k : Same H H') : DatAt H' v d := h.keep fun p xs => ⟨k p _, k p _⟩
theorem DatAll.same {v : List V} {d : List PyData} (h : DatAll H v d) (k : Same H H') : DatAll H' v d := h.keep fun p xs => ⟨k p _, k p _⟩
theorem DatAll.length : ∀ {vs : List V} {ds : List PyData}, DatAll H vs ds → vs.length = ds.length
  | _, _, .nil => rfl
  | _, _, .cons _ r => by simp [r.length]
theorem DatAll.append : ∀ {vs ws : List V} {ds es : List PyData}, DatAll H vs ds → DatAll H ws es → DatAll H (vs ++ ws) (ds ++ es)
  | _, _, _, _, .nil, r => r
  | _, _, _, _, .cons h r, q => .cons h (r.append q)
end
theorem Same.new {H : Hp} {p : Addr} {o : HO} (hp : H p = none) : Same H (upd H p o) := fun c u e => by
  rw [upd_ne (ne_of_none e hp)]
  exact e
/-- a new object, changed later -/
theorem Same.newer {H H1 : Hp} {p : Addr} {o : HO} (hp : H p = none) (x : Same H H1) : Same H (upd H1 p o) := fun c u e => by
  rw [upd_ne (ne_of_none e hp)]
  exact x c u e


section
variable {H : Hp} {v : V}
theorem DatAt.tupE {ds : List PyData} (h : DatAt H v (.tuple ds)) : ∃ a xs, v = .ref a ∧ H a = some (.tup xs) ∧ DatAll H xs ds := by
  cases h with
  | tup h r => exact ⟨_, _, rfl, h, r⟩
theorem DatAt.lstE {ds : List PyData} (h : DatAt H v (.list ds)) : ∃ a xs, v = .ref a ∧ H a = some (.lst xs) ∧ DatAll H xs ds := by
  cases h with
  | lst h r => exact ⟨_, _, rfl, h, r⟩
theorem DatAt.strE {x : Str} (h : DatAt H v (.str x)) : v = .str x := by
  cases h
  rfl
theorem DatAt.intE {x : Int} (h : DatAt H v (.int x)) : v = .int x := by
  cases h
  rfl
theorem DatAt.nonE (h : DatAt H v .none) : v = .non := by
  cases h
  rfl
theorem DatAll.nilE {xs : List V} (h : DatAll H xs []) : xs = [] := by
  cases h
  rfl
theorem DatAll.consE {xs : List V} {d : PyData} {ds : List PyData} (h : DatAll H xs (d :: ds)) : ∃ x ys, xs = x :: ys ∧ DatAt H x d ∧ DatAll H ys ds := by
  cases h with
  | cons h r => exact ⟨_, _, rfl, h, r⟩
theorem DatAll.get : ∀ {xs : List V} {ds : List PyData} {i : Nat} {x : V}, DatAll H xs ds → xs[i]? = some x → ∃ d, ds[i]? = some d ∧ DatAt H x d
  | _, _, i, x, .nil, e => by simp at e
  | _, _, 0, x, .cons h r, e => by
    simp only [List.getElem?_cons_zero, Option.some.injEq] at e
    subst e
    exact ⟨_, rfl, h⟩
  | _, _, i + 1, x, .cons h r, e => by
    simp only [List.getElem?_cons_succ] at e ⊢
    exact r.get e
end
def tyN : PyData → String
  | .none => "NoneType"
  | .bool _ => "bool"
  | .int _ => "int"
  | .str _ => "str"
  | .list _ => "list"
  | .tuple _ => "tuple"
  | .dict _ => "dict"
theorem DatAt.ty {K : PySem.W.Frag} {H : Hp} {v : V} {d : PyData} (h : DatAt H v d) : TyX K H v (.type (tyN d)) := by
  cases h with
  | non => exact .base .non
  | bl b => exact .base (.bl b)
  | int i => exact .base (.int i)
  | str x => exact .base (.str x)
  | lst h r => exact .base (.lst h)
  | tup h r => exact .base (.tup h)
def isS : PyData → Bool
  | .str _ => true
  | _ => false
theorem kit_str {K : PySem.W.Frag} : ∀ d : PyData, PySem.W.kitOne K (.type (tyN d)) (.type "str") = some (isS d)
  | .none => kit_ty (show kitB "NoneType" "str" = some false by decide +kernel)
  | .bool _ => kit_ty (show kitB "bool" "str" = some false by decide +kernel)
  | .int _ => kit_ty (show kitB "int" "str" = some false by decide +kernel)
  | .str _ => kit_ty (show kitB "str" "str" = some true by decide +kernel)
  | .list _ => kit_ty (show kitB "list" "str" = some false by decide +kernel)
  | .tuple _ => kit_ty (show kitB "tuple" "str" = some false by decide +kernel)
  | .dict _ => kit_ty (show kitB "dict" "str" = some false by decide +kernel)
/-! ### books -/
structure Me where
  side : Str
  cases : List (Str × Str)
  ending : Str
structure En where
  nm : Str
  base : Option Str
  ms : List Me
def optD : Option Str → PyData
  | none => .none
  | some x => .str x
def optV : Option Str → V
  | none => .non
  | some x => .str x
theorem opt_at {H : Hp} : ∀ o, DatAt H (optV o) (optD o)
  | none => .non
  | some x => .str x
theorem opt_of {H : Hp} {v : V} : ∀ {o}, DatAt H v (optD o) → v = optV o
  | none, h => h.nonE
  | some x, h => h.strE
def caD (c : Str × Str) : PyData := .tuple [.str c.1, .str c.2]
def casD (cs : List (Str × Str)) : PyData := .tuple (cs.map caD)
def meD (m : Me) : PyData := .tuple [.str m.side, casD m.cases, .str m.ending]
def msD (ms : List Me) : PyData := .tuple (ms.map meD)
def enD (e : En) : PyData := .tuple [.str e.nm, optD e.base, msD e.ms]
def lineR : List En → Str → List Str
  | [], _ => []
  | e :: r, n => if e.nm = n then n :: (match e.base with | none => [] | some m => lineR r m) else lineR r n
def GoodR : List En → Prop
  | [] => True
  | e :: r => GoodR r ∧ (∀ x ∈ r, x.nm ≠ e.nm) ∧ (∀ m, e.base = some m → ∃ x ∈ r, x.nm = m)
theorem base_mem : ∀ {R : List En} {e : En} {m : Str}, GoodR R → e ∈ R → e.base = some m → ∃ x ∈ R, x.nm = m
  | e0 :: r, e, m, g, h, hb => by
    rcases List.mem_cons.mp h with rfl | h
    · obtain ⟨x, hx, hm⟩ := g.2.2 m hb
      exact ⟨x, List.mem_cons_of_mem _ hx, hm⟩
    · obtain ⟨x, hx, hm⟩ := base_mem g.1 h hb
      exact ⟨x, List.mem_cons_of_mem _ hx, hm⟩
theorem uniq : ∀ {R : List En} {e e' : En}, GoodR R → e ∈ R → e' ∈ R → e.nm = e'.nm → e = e'
  | e0 :: r, e, e', g, h, h', z => by
    rcases List.mem_cons.mp h with h1 | h1
    · rcases List.mem_cons.mp h' with h2 | h2
      · exact h1.trans h2.symm
      · exact absurd (z.symm.trans (congrArg En.nm h1)) (g.2.1 _ h2)
    · rcases List.mem_cons.mp h' with h2 | h2
      · exact absurd (z.trans (congrArg En.nm h2)) (g.2.1 _ h1)
      · exact uniq g.1 h1 h2 z
theorem lineR_step : ∀ {R : List En} {e : En}, GoodR R → e ∈ R → lineR R e.nm = e.nm :: (match e.base with | none => [] | some m => lineR R m)
  | e0 :: r, e, g, h => by
    have other : ∀ m, (∃ x ∈ r, x.nm = m) → lineR (e0 :: r) m = lineR r m := fun m ⟨x, hx, hm⟩ => by
      have : e0.nm ≠ m := fun z => g.2.1 x hx (hm.trans z.symm)
      rw [lineR, if_neg this]
    rcases List.mem_cons.mp h with rfl | h
    · rw [lineR, if_pos rfl]
      cases hb : e.base with
      | none => rfl
      | some m =>
        dsimp only
        rw [other m (g.2.2 m hb)]
    · have ih := lineR_step g.1 h
      rw [other e.nm ⟨e, h, rfl⟩, ih]
      cases hb : e.base with
      | none => rfl
      | some m =>
        dsimp only
        rw [other m (base_mem g.1 h hb)]
theorem lineR_len : ∀ (R : List En) (n : Str), (lineR R n).length ≤ R.length
  | [], n => Nat.le_refl _
  | e :: r, n => by
    rw [lineR]
    split
    · cases e.base with
      | none => simp
      | some m =>
        have := lineR_len r m
        simpa using this
    · have := lineR_len r n
      simp only [List.length_cons]
      omega
theorem lineR_mem : ∀ {R : List En} {n x : Str}, x ∈ lineR R n → ∃ e ∈ R, e.nm = x
  | [], n, x, h => by cases h
  | e :: r, n, x, h => by
    rw [lineR] at h
    split at h
    · rename_i z
      rcases List.mem_cons.mp h with rfl | h
      · exact ⟨e, List.mem_cons_self, z⟩
      · cases hb : e.base with
        | none =>
          rw [hb] at h
          cases h
        | some m =>
          rw [hb] at h
          obtain ⟨y, hy, e'⟩ := lineR_mem h
          exact ⟨y, List.mem_cons_of_mem _ hy, e'⟩
    · obtain ⟨y, hy, e'⟩ := lineR_mem h
      exact ⟨y, List.mem_cons_of_mem _ hy, e'⟩
/-- a line goes on as the line of each of its classes -/
theorem lineR_suffix {R : List En} (g : GoodR R) : ∀ (k : Nat) {n x : Str}, (lineR R n).length ≤ k → x ∈ lineR R n → ∃ pre, lineR R n = pre ++ lineR R x
  | 0, n, x, hk, h => by
    have : lineR R n = [] := List.eq_nil_of_length_eq_zero (by omega)
    rw [this] at h
    cases h
  | k + 1, n, x, hk, h => by
    by_cases hn : ∃ e ∈ R, e.nm = n
    · obtain ⟨e, he, rfl⟩ := hn
      have st := lineR_step g he
      rw [st] at h
      rcases List.mem_cons.mp h with rfl | h
      · exact ⟨[], rfl⟩
      · cases hb : e.base with
        | none =>
          rw [hb] at h
          cases h
        | some m =>
          rw [hb] at h st
          dsimp only at h st
          have hk' : (lineR R m).length ≤ k := by
            rw [st] at hk
            simp only [List.length_cons] at hk
            omega
          obtain ⟨pre, hp⟩ := lineR_suffix g k hk' h
          exact ⟨e.nm :: pre, by rw [st, hp]; rfl⟩
    · exfalso
      have : ∀ r : List En, (∀ e ∈ r, e.nm ≠ n) → lineR r n = [] := by
        intro r
        induction r with
        | nil => exact fun _ => rfl
        | cons a r ih =>
          intro hr
          rw [lineR, if_neg (hr a List.mem_cons_self)]
          exact ih fun e he => hr e (List.mem_cons_of_mem _ he)
      rw [this R fun e he z => hn ⟨e, he, z⟩] at h
      cases h
/-- the entries of a book, in their order -/
structure GoodB (b : List En) : Prop where
  g : GoodR b.reverse
  l : b.length ≤ 100
  c : ∀ e ∈ b, ∀ m ∈ e.ms, ∀ c ∈ m.cases, ∃ x ∈ b, x.nm = c.1
def line (b : List En) (n : Str) : List Str := lineR b.reverse n
def msOf (b : List En) (n : Str) : List Me := match b.find? (fun e => decide (e.nm = n)) with
  | some e => e.ms
  | none => []
def mAt (ms : List Me) (side : Str) : Option Me := ms.find? fun m => decide (m.side = side)
def stand (b : List En) (side : Str) (l : List Str) : List (Str × Me) := l.filterMap fun h => (mAt (msOf b h) side).map fun m => (h, m)
def meth (b : List En) (n side : Str) : Option (Str × Me) := (stand b side (line b n)).head?
def belongs (b : List En) (x y : Str) : Bool := (line b x).contains y
def pick (p : Str → Bool) : List (Str × Str) → Option (Nat × Str)
  | [] => none
  | c :: r => if p c.1 = true then some (0, c.2) else (pick p r).map fun q => (q.1 + 1, q.2)
def meant (res asked other : Str) : Str := if res = "self" then asked else if res = "other" then other else res
def askL (p : Str → Bool) : List (Str × Me) → Option (Str × Nat × Str)
  | [] => none
  | q :: r => match pick p q.2.cases with
    | some (i, s) => some (q.1, i, s)
    | none => if q.2.ending = "super" then askL p r else none
def ask (b : List En) (asked side other : Str) : Option (Str × Nat × Str) := askL (belongs b other) (stand b side (line b asked))
def prior (b : List En) (l r : Str) : Bool := !decide (l = r) && (belongs b r l && match meth b r "reflected" with
  | none => false
  | some q => match meth b l "reflected" with
    | none => true
    | some q' => !decide (q'.1 = q.1))
def questions (b : List En) (l r : Str) (inpl : Bool) : List (Str × Str × Str) :=
  (if inpl = true then [(l, ("inplace" : Str), r)] else []) ++ (if prior b l r = true then [(r, ("reflected" : Str), l), (l, ("forward" : Str), r)] else if l = r then [(l, ("forward" : Str), r)] else [(l, ("forward" : Str), r), (r, ("reflected" : Str), l)])
structure Att where
  asked : Str
  side : Str
  place : Option (Str × Nat)
def answerL (b : List En) : List (Str × Str × Str) → List Att × Option Str
  | [] => ([], none)
  | q :: r => if (meth b q.1 q.2.1).isNone = true then answerL b r else match ask b q.1 q.2.1 q.2.2 with
    | some (h, i, res) => ([⟨q.1, q.2.1, some (h, i)⟩], some (meant res q.1 q.2.2))
    | none => (⟨q.1, q.2.1, none⟩ :: (answerL b r).1, (answerL b r).2)
def answer (b : List En) (l r : Str) (inpl : Bool) : List Att × Option Str := answerL b (questions b l r inpl)
def plD (side : Str) : Option (Str × Nat) → PyData
  | none => .none
  | some q => .tuple [.str q.1, .str side, .int q.2]
def attD (a : Att) : PyData := .tuple [.str a.asked, .str a.side, plD a.side a.place]
section
variable {b : List En}
theorem GoodB.step (g : GoodB b) {e : En} (h : e ∈ b) : line b e.nm = e.nm :: (match e.base with | none => [] | some m => line b m) := lineR_step g.g (List.mem_reverse.mpr h)
theorem GoodB.base (g : GoodB b) {e : En} {m : Str} (h : e ∈ b) (hb : e.base = some m) : ∃ x ∈ b, x.nm = m := by
  obtain ⟨x, hx, e'⟩ := base_mem g.g (List.mem_reverse.mpr h) hb
  exact ⟨x, List.mem_reverse.mp hx, e'⟩
theorem GoodB.uniq (g : GoodB b) {e e' : En} (h : e ∈ b) (h' : e' ∈ b) (z : e.nm = e'.nm) : e = e' := BK.uniq g.g (List.mem_reverse.mpr h) (List.mem_reverse.mpr h') z
theorem GoodB.len (g : GoodB b) (n : Str) : (line b n).length ≤ 100 := by
  have h1 := lineR_len b.reverse n
  have h2 := g.l
  rw [List.length_reverse] at h1
  exact Nat.le_trans h1 h2
theorem line_mem {n x : Str} (h : x ∈ line b n) : ∃ e ∈ b, e.nm = x := by
  obtain ⟨e, he, z⟩ := lineR_mem h
  exact ⟨e, List.mem_reverse.mp he, z⟩
theorem GoodB.suffix (g : GoodB b) {n x : Str} (h : x ∈ line b n) : ∃ pre, line b n = pre ++ line b x := lineR_suffix g.g _ (Nat.le_refl _) h
theorem GoodB.msOf (g : GoodB b) {e : En} (h : e ∈ b) : msOf b e.nm = e.ms := by
  unfold BK.msOf
  cases z : b.find? (fun x => decide (x.nm = e.nm)) with
  | none =>
    have := List.find?_eq_none.mp z e h
    simp at this
  | some x =>
    have h1 := List.mem_of_find?_eq_some z
    have h2 := List.find?_some z
    rw [g.uniq h1 h (of_decide_eq_true h2)]
end
/-- a line or nothing -/
def Lin (b : List En) (L : List Str) : Prop := L = [] ∨ ∃ x ∈ b, L = line b x.nm
theorem GoodB.lin_tail (g : GoodB b) {e : En} (h : e ∈ b) : Lin b (line b e.nm).tail := by
  rw [g.step h]
  cases hb : e.base with
  | none => exact Or.inl rfl
  | some m =>
    obtain ⟨x, hx, rfl⟩ := g.base h hb
    exact Or.inr ⟨x, hx, rfl⟩
theorem stand_cons (b : List En) (side x : Str) (l : List Str) : stand b side (x :: l) = (match mAt (msOf b x) side with | none => stand b side l | some m => (x, m) :: stand b side l) := by
  unfold stand
  rw [List.filterMap_cons]
  cases mAt (msOf b x) side <;> rfl
/-- the lowest method of a line, and what stands above it -/
theorem GoodB.head (g : GoodB b) {side h : Str} {m : Me} : ∀ (k : Nat) {x : En}, x ∈ b → (line b x.nm).length ≤ k → (stand b side (line b x.nm)).head? = some (h, m) →
    ∃ e ∈ b, e.nm = h ∧ mAt (BK.msOf b h) side = some m ∧ stand b side (line b x.nm) = (h, m) :: stand b side (line b h).tail ∧ (line b h).length ≤ (line b x.nm).length
  | 0, x, hx, hk, _ => by
    rw [g.step hx] at hk
    simp at hk
  | k + 1, x, hx, hk, e0 => by
    have st := g.step hx
    have tl : ∀ r, line b x.nm = x.nm :: r → (line b x.nm).tail = r := fun r e => by rw [e]; rfl
    cases hm : mAt (BK.msOf b x.nm) side with
    | some m' =>
      have e1 : stand b side (line b x.nm) = (x.nm, m') :: stand b side (line b x.nm).tail := by
        rw [tl _ st]
        conv => lhs; rw [st, stand_cons, hm]
      rw [e1] at e0
      cases e0
      exact ⟨x, hx, rfl, hm, e1, Nat.le_refl _⟩
    | none =>
      have e1 : stand b side (line b x.nm) = stand b side (line b x.nm).tail := by
        rw [tl _ st]
        conv => lhs; rw [st, stand_cons, hm]
      rw [e1] at e0 ⊢
      rcases g.lin_tail hx with z | ⟨y, hy, z⟩
      · rw [z] at e0
        cases e0
      · have ly : (line b y.nm).length < (line b x.nm).length := by
          rw [← z, tl _ st]
          conv => rhs; rw [st]
          exact Nat.lt_succ_self _
        rw [z] at e0 ⊢
        obtain ⟨e, he, h1, h2, h3, h4⟩ := g.head k hy (by omega) e0
        exact ⟨e, he, h1, h2, h3, by omega⟩
theorem pick_hit {p : Str → Bool} : ∀ {cs : List (Str × Str)} {j : Nat} {c : Str × Str}, cs[j]? = some c → pick p (cs.take j) = none → p c.1 = true → pick p cs = some (j, c.2)
  | [], j, c, h, _, _ => by simp at h
  | c0 :: r, 0, c, h, _, hp => by
    simp only [List.getElem?_cons_zero, Option.some.injEq] at h
    subst h
    rw [pick, if_pos hp]
  | c0 :: r, j + 1, c, h, h0, hp => by
    rw [List.take_succ_cons, pick] at h0
    rw [pick]
    split at h0
    · cases h0
    · rename_i n
      rw [if_neg n, pick_hit (by simpa using h) (by simpa using h0) hp]
      rfl
theorem pick_miss {p : Str → Bool} : ∀ {cs : List (Str × Str)} {j : Nat} {c : Str × Str}, cs[j]? = some c → pick p (cs.take j) = none → p c.1 = false → pick p (cs.take (j + 1)) = none
  | [], j, c, h, _, _ => by simp at h
  | c0 :: r, 0, c, h, _, hp => by
    simp only [List.getElem?_cons_zero, Option.some.injEq] at h
    subst h
    simp [pick, hp]
  | c0 :: r, j + 1, c, h, h0, hp => by
    rw [List.take_succ_cons, pick] at h0
    rw [List.take_succ_cons, pick]
    split at h0
    · cases h0
    · rename_i n
      rw [if_neg n, pick_miss (by simpa using h) (by simpa using h0) hp]
      rfl
theorem mAt_mem {ms : List Me} {side : Str} {m : Me} (h : mAt ms side = some m) : m ∈ ms := List.mem_of_find?_eq_some h
/-- is a value a class of the book -/
def memD (b : List En) : PyData → Bool
  | .str n => decide (∃ e ∈ b, e.nm = n)
  | _ => false
/-! ### a book in memory -/
def MsK (H : Hp) : List (Key × V) → List En → Prop
  | [], [] => True
  | kv :: r, e :: b => kv.1 = .inr e.nm ∧ DatAt H kv.2 (msD e.ms) ∧ MsK H r b
  | _, _ => False
def BookAt (C : Addr) (H : Hp) (a : Addr) (b : List En) : Prop := ∃ dx p q kvs re xe, H a = some (.ins C dx [("_entries", .ref re), ("_bases", .ref p), ("_methods", .ref q)]) ∧
  H p = some (.dK (b.map fun e => (Sum.inr e.nm, optV e.base))) ∧ H q = some (.dK kvs) ∧ MsK H kvs b ∧ H re = some (.lst xe) ∧ DatAll H xe (b.map enD)
section
variable {H H' : Hp} {C a : Addr} {b : List En}
theorem MsK.same (k : Same H H') : ∀ {kvs : List (Key × V)} {b : List En}, MsK H kvs b → MsK H' kvs b
  | [], [], _ => trivial
  | kv :: r, e :: b, h => ⟨h.1, h.2.1.same k, MsK.same k h.2.2⟩
theorem BookAt.same (h : BookAt C H a b) (k : Same H H') : BookAt C H' a b := by
  obtain ⟨dx, p, q, kvs, re, xe, h1, h2, h3, h4, h5, h6⟩ := h
  exact ⟨dx, p, q, kvs, re, xe, k _ _ h1, k _ _ h2, k _ _ h3, h4.same k, k _ _ h5, h6.same k⟩
theorem bases_at (g : GoodB b) {e : En} (h : e ∈ b) : valV (b.map fun e => ((Sum.inr e.nm : Key), optV e.base)) (.inr e.nm) = some (optV e.base) := by
  unfold valV
  cases z : (b.map fun e => ((Sum.inr e.nm : Key), optV e.base)).find? (fun kv => decide (kv.1 = Sum.inr e.nm)) with
  | none =>
    have := List.find?_eq_none.mp z _ (List.mem_map.mpr ⟨e, h, rfl⟩)
    simp at this
  | some kv =>
    have h1 := List.mem_of_find?_eq_some z
    have h2 := List.find?_some z
    have h2 := of_decide_eq_true h2
    obtain ⟨x, hx, rfl⟩ := List.mem_map.mp h1
    have h2 : (Sum.inr x.nm : Key) = Sum.inr e.nm := h2
    rw [g.uniq hx h (Sum.inr.inj h2)]
    rfl
theorem bases_no {n : Str} (h : ∀ e ∈ b, e.nm ≠ n) : valV (b.map fun e => ((Sum.inr e.nm : Key), optV e.base)) (.inr n) = none := by
  unfold valV
  rw [List.find?_eq_none.mpr]
  · rfl
  · intro kv hkv z
    obtain ⟨x, hx, rfl⟩ := List.mem_map.mp hkv
    have z : (Sum.inr x.nm : Key) = Sum.inr n := of_decide_eq_true z
    exact h x hx (Sum.inr.inj z)
theorem meths_at : ∀ {b : List En} {kvs : List (Key × V)} {n : Str}, MsK H kvs b → (∃ e ∈ b, e.nm = n) → ∃ v, valV kvs (.inr n) = some v ∧ DatAt H v (msD (msOf b n))
  | [], _, _, _, h => by
    obtain ⟨e, he, _⟩ := h
    cases he
  | e :: b, [], _, h, _ => h.elim
  | e :: b, kv :: r, n, h, hn => by
    obtain ⟨h1, h2, h3⟩ := h
    by_cases z : e.nm = n
    · subst z
      refine ⟨kv.2, valV_pos h1, ?_⟩
      unfold msOf
      rw [List.find?_cons_of_pos (by simp)]
      exact h2
    · obtain ⟨e', he', z'⟩ := hn
      rcases List.mem_cons.mp he' with rfl | he'
      · exact absurd z' z
      obtain ⟨v, v1, v2⟩ := meths_at h3 ⟨e', he', z'⟩
      refine ⟨v, ?_, ?_⟩
      · rw [valV_neg (by rw [h1]; exact fun q => z (Sum.inr.inj q))]
        exact v1
      · unfold msOf at v2 ⊢
        rw [List.find?_cons_of_neg (by simp [z])]
        exact v2
end
end BK
namespace BK
open PySem PySem.Spec PyProof.Rows L2 Vr
/-! ### a book and further entries -/
theorem goodR_nd : ∀ {R : List En}, GoodR R → (R.map En.nm).Nodup
  | [], _ => List.nodup_nil
  | e :: r, g => by
    rw [List.map_cons, List.nodup_cons]
    refine ⟨fun h => ?_, goodR_nd g.1⟩
    obtain ⟨x, hx, z⟩ := List.mem_map.mp h
    exact g.2.1 x hx z
theorem GoodB.nd {es : List En} (g : GoodB es) : (es.map En.nm).Nodup := by
  have h := goodR_nd g.g
  rw [List.map_reverse] at h
  exact (List.reverse_perm (es.map En.nm)).nodup_iff.mp h
theorem app_fresh {es ls : List En} (g : GoodB (es ++ ls)) {x e : En} (hx : x ∈ es) (he : e ∈ ls) : e.nm ≠ x.nm := by
  have h := g.nd
  rw [List.map_append, List.nodup_append] at h
  intro z
  exact h.2.2 _ (List.mem_map.mpr ⟨x, hx, rfl⟩) _ (List.mem_map.mpr ⟨e, he, rfl⟩) z.symm
theorem lineR_skip : ∀ {r R : List En} {n : Str}, (∀ e ∈ r, e.nm ≠ n) → lineR (r ++ R) n = lineR R n
  | [], R, n, _ => rfl
  | e :: r, R, n, h => by
    rw [List.cons_append, lineR, if_neg (h e List.mem_cons_self)]
    exact lineR_skip fun x hx => h x (List.mem_cons_of_mem _ hx)
theorem line_app {es ls : List En} {n : Str} (h : ∀ e ∈ ls, e.nm ≠ n) : line (es ++ ls) n = line es n := by
  unfold line
  rw [List.reverse_append]
  exact lineR_skip fun e he => h e (List.mem_reverse.mp he)
theorem msOf_app {es ls : List En} {n : Str} (h : ∃ e ∈ es, e.nm = n) : msOf (es ++ ls) n = msOf es n := by
  unfold msOf
  rw [List.find?_append]
  obtain ⟨e, he, rfl⟩ := h
  cases z : es.find? (fun x => decide (x.nm = e.nm)) with
  | none =>
    have := List.find?_eq_none.mp z e he
    simp at this
  | some x => rfl
theorem filterMap_congr' {α β : Type} {f f' : α → Option β} : ∀ {l : List α}, (∀ x ∈ l, f x = f' x) → l.filterMap f = l.filterMap f'
  | [], _ => rfl
  | x :: l, h => by
    rw [List.filterMap_cons, List.filterMap_cons, h x List.mem_cons_self, filterMap_congr' fun y hy => h y (List.mem_cons_of_mem _ hy)]
theorem stand_app {es ls : List En} {side : Str} {l : List Str} (h : ∀ n ∈ l, ∃ e ∈ es, e.nm = n) : stand (es ++ ls) side l = stand es side l := by
  unfold stand
  refine filterMap_congr' fun n hn => ?_
  rw [msOf_app (h n hn)]
theorem stand_in {b : List En} {side : Str} {l : List Str} {q : Str × Me} (h : q ∈ stand b side l) : q.1 ∈ l ∧ mAt (msOf b q.1) side = some q.2 := by
  obtain ⟨n, hn, e⟩ := List.mem_filterMap.mp h
  cases z : mAt (msOf b n) side with
  | none =>
    rw [z] at e
    cases e
  | some m =>
    rw [z] at e
    cases e
    exact ⟨hn, z⟩
theorem pick_at {p : Str → Bool} : ∀ {cs : List (Str × Str)} {i : Nat} {s : Str}, pick p cs = some (i, s) → ∃ c, cs[i]? = some c ∧ c.2 = s
  | [], i, s, h => by cases h
  | c :: r, i, s, h => by
    rw [pick] at h
    split at h
    · cases h
      exact ⟨c, rfl, rfl⟩
    · cases hp : pick p r with
      | none =>
        rw [hp] at h
        cases h
      | some q =>
        rw [hp] at h
        cases h
        obtain ⟨c', h1, h2⟩ := pick_at hp
        exact ⟨c', by rw [List.getElem?_cons_succ]; exact h1, h2⟩
theorem pick_congr {p p' : Str → Bool} : ∀ {cs : List (Str × Str)}, (∀ c ∈ cs, p c.1 = p' c.1) → pick p cs = pick p' cs
  | [], _ => rfl
  | c :: r, h => by rw [pick, pick, h c List.mem_cons_self, pick_congr fun x hx => h x (List.mem_cons_of_mem _ hx)]
theorem askL_at {p : Str → Bool} : ∀ {st : List (Str × Me)} {h : Str} {i : Nat} {s : Str}, askL p st = some (h, i, s) → ∃ q ∈ st, q.1 = h ∧ ∃ c, q.2.cases[i]? = some c ∧ c.2 = s
  | [], h, i, s, e => by cases e
  | q :: r, h, i, s, e => by
    rw [askL] at e
    cases hp : pick p q.2.cases with
    | none =>
      rw [hp] at e
      dsimp only at e
      split at e
      · obtain ⟨q', h1, h2⟩ := askL_at e
        exact ⟨q', List.mem_cons_of_mem _ h1, h2⟩
      · cases e
    | some w =>
      obtain ⟨wi, ws⟩ := w
      rw [hp] at e
      cases e
      exact ⟨q, List.mem_cons_self, rfl, pick_at hp⟩
theorem askL_congr {p p' : Str → Bool} : ∀ {st : List (Str × Me)}, (∀ q ∈ st, ∀ c ∈ q.2.cases, p c.1 = p' c.1) → askL p st = askL p' st
  | [], _ => rfl
  | q :: r, h => by rw [askL, askL, pick_congr (h q List.mem_cons_self), askL_congr fun x hx => h x (List.mem_cons_of_mem _ hx)]
theorem que_names {b : List En} {l r : Str} {i : Bool} : ∀ q ∈ questions b l r i, (q.1 = l ∧ q.2.2 = r) ∨ (q.1 = r ∧ q.2.2 = l) := by
  intro q hq
  unfold questions at hq
  rcases List.mem_append.mp hq with hq | hq
  · split at hq
    · rw [List.mem_singleton.mp hq]
      exact .inl ⟨rfl, rfl⟩
    · cases hq
  · split at hq
    · rcases List.mem_cons.mp hq with rfl | hq
      · exact .inr ⟨rfl, rfl⟩
      · rw [List.mem_singleton.mp hq]
        exact .inl ⟨rfl, rfl⟩
    · split at hq
      · rw [List.mem_singleton.mp hq]
        exact .inl ⟨rfl, rfl⟩
      · rcases List.mem_cons.mp hq with rfl | hq
        · exact .inl ⟨rfl, rfl⟩
        · rw [List.mem_singleton.mp hq]
          exact .inr ⟨rfl, rfl⟩
section
variable {es ls : List En} (g' : GoodB (es ++ ls))
include g'
theorem line_told {x : En} (hx : x ∈ es) : line (es ++ ls) x.nm = line es x.nm := line_app fun e he => app_fresh g' hx he
theorem stand_told {x : En} (hx : x ∈ es) (side : Str) : stand (es ++ ls) side (line (es ++ ls) x.nm) = stand es side (line es x.nm) := by
  rw [line_told g' hx]
  exact stand_app fun n hn => line_mem hn
theorem meth_told {x : En} (hx : x ∈ es) (side : Str) : meth (es ++ ls) x.nm side = meth es x.nm side := by
  unfold meth
  rw [stand_told g' hx]
theorem belongs_told {x : En} (hx : x ∈ es) : belongs (es ++ ls) x.nm = belongs es x.nm := by
  funext y
  unfold belongs
  rw [line_told g' hx]
theorem ask_told {x y : En} (hx : x ∈ es) (hy : y ∈ es) (side : Str) : ask (es ++ ls) x.nm side y.nm = ask es x.nm side y.nm := by
  unfold ask
  rw [stand_told g' hx, belongs_told g' hy]
theorem prior_told {x y : En} (hx : x ∈ es) (hy : y ∈ es) : prior (es ++ ls) x.nm y.nm = prior es x.nm y.nm := by
  unfold prior
  rw [belongs_told g' hy, meth_told g' hx, meth_told g' hy]
theorem questions_told {x y : En} (hx : x ∈ es) (hy : y ∈ es) (i : Bool) : questions (es ++ ls) x.nm y.nm i = questions es x.nm y.nm i := by
  unfold questions
  rw [prior_told g' hx hy]
theorem answerL_told : ∀ {qs : List (Str × Str × Str)}, (∀ q ∈ qs, (∃ n ∈ es, n.nm = q.1) ∧ ∃ o ∈ es, o.nm = q.2.2) → answerL (es ++ ls) qs = answerL es qs
  | [], _ => rfl
  | q :: r, h => by
    obtain ⟨⟨n, hn, zn⟩, ⟨o, ho, zo⟩⟩ := h q List.mem_cons_self
    rw [answerL, answerL, answerL_told fun x hx => h x (List.mem_cons_of_mem _ hx), ← zn, ← zo, meth_told g' hn, ask_told g' hn ho]
theorem answer_told {x y : En} (hx : x ∈ es) (hy : y ∈ es) (i : Bool) : answer (es ++ ls) x.nm y.nm i = answer es x.nm y.nm i := by
  unfold answer
  rw [questions_told g' hx hy]
  refine answerL_told g' fun q hq => ?_
  rcases que_names q hq with ⟨h1, h2⟩ | ⟨h1, h2⟩
  · rw [h1, h2]
    exact ⟨⟨x, hx, rfl⟩, ⟨y, hy, rfl⟩⟩
  · rw [h1, h2]
    exact ⟨⟨y, hy, rfl⟩, ⟨x, hx, rfl⟩⟩
end
end BK
namespace Vd
open PySem PySem.Spec PyProof.Rows L2 Vr
/-! data whose repr is asked -/
structure Fd (n w : Nat) (d : PyData) : Prop where
  lay : d.canLay0 = true
  dep : d.depth ≤ n
  wei : PyData.weight d ≤ w
  ish : d.intsShort 13 = true
  sho : d.showable = true
structure FdAll (n w : Nat) (ds : List PyData) : Prop where
  lay : PyData.canLayAll0 ds = true
  dep : PyData.depthAll ds ≤ n
  wei : PyData.weightAll ds ≤ w
  ish : PyData.intsShortAll 13 ds = true
  sho : PyData.showableAll ds = true
theorem Fd.mono {n w n' w' : Nat} {d : PyData} (h : Fd n w d) (h1 : n ≤ n') (h2 : w ≤ w') : Fd n' w' d := ⟨h.lay, Nat.le_trans h.dep h1, Nat.le_trans h.wei h2, h.ish, h.sho⟩
theorem FdAll.mono {n w n' w' : Nat} {d : List PyData} (h : FdAll n w d) (h1 : n ≤ n') (h2 : w ≤ w') : FdAll n' w' d := ⟨h.lay, Nat.le_trans h.dep h1, Nat.le_trans h.wei h2, h.ish, h.sho⟩
theorem fd_non : Fd 0 0 .none := ⟨rfl, Nat.le_refl _, Nat.le_refl _, rfl, rfl⟩
theorem fd_bl (b : Bool) : Fd 0 0 (.bool b) := by cases b <;> exact ⟨rfl, Nat.le_refl _, Nat.le_refl _, rfl, rfl⟩
theorem fd_str {x : Str} {m : Nat} (h : PyData.strOk x = true) (l : x.length ≤ m) : Fd 0 m (.str x) where
  lay := by simp only [PyData.canLay0, h]
  dep := Nat.le_refl _
  wei := l
  ish := rfl
  sho := rfl
theorem FdAll.nil {n w : Nat} : FdAll n w [] := ⟨rfl, Nat.zero_le _, Nat.zero_le _, rfl, rfl⟩
theorem FdAll.cons {n w v : Nat} {d : PyData} {ds : List PyData} (h : Fd n w d) (r : FdAll n v ds) : FdAll n (w + 1 + v) (d :: ds) where
  lay := by simp only [PyData.canLayAll0, h.lay, r.lay, Bool.and_self]
  dep := by
    have h1 := h.dep
    have h2 := r.dep
    simp only [PyData.depthAll]
    omega
  wei := by
    have h1 := h.wei
    have h2 := r.wei
    simp only [PyData.weightAll]
    omega
  ish := by simp only [PyData.intsShortAll, h.ish, r.ish, Bool.and_self]
  sho := by simp only [PyData.showableAll, h.sho, r.sho, Bool.and_self]
theorem Fd.tup {n w : Nat} {ds : List PyData} (h : FdAll n w ds) : Fd (n + 1) w (.tuple ds) where
  lay := by simp only [PyData.canLay0, h.lay]
  dep := by
    have := h.dep
    simp only [PyData.depth]
    omega
  wei := by simpa only [PyData.weight] using h.wei
  ish := by simpa only [PyData.intsShort] using h.ish
  sho := by simpa only [PyData.showable] using h.sho
theorem Fd.lst {n w : Nat} {ds : List PyData} (h : FdAll n w ds) : Fd (n + 1) w (.list ds) where
  lay := by simp only [PyData.canLay0, h.lay]
  dep := by
    have := h.dep
    simp only [PyData.depth]
    omega
  wei := by simpa only [PyData.weight] using h.wei
  ish := by simpa only [PyData.intsShort] using h.ish
  sho := by simpa only [PyData.showable] using h.sho
theorem FdAll.map {α : Type} {f : α → PyData} {n w : Nat} : ∀ {l : List α}, (∀ x ∈ l, Fd n w (f x)) → FdAll n (l.length * (w + 1)) (l.map f)
  | [], _ => .nil
  | x :: l, h => by
    have r := FdAll.map (l := l) fun y hy => h y (List.mem_cons_of_mem _ hy)
    have c := FdAll.cons (h x List.mem_cons_self) r
    rw [List.map_cons, List.length_cons]
    refine c.mono (Nat.le_refl _) ?_
    rw [Nat.succ_mul]
    omega
theorem fd_small : ∀ i : Fin 128, (PyData.intsShort 13 (.int ((i : Nat) : Int)) && (PyData.showable (.int ((i : Nat) : Int)) && decide (PyData.weight (.int ((i : Nat) : Int)) ≤ 10))) = true := by decide +kernel
theorem fd_nat {i : Nat} (h : i < 128) : Fd 0 10 (.int i) := by
  have := fd_small ⟨i, h⟩
  simp only [Bool.and_eq_true, decide_eq_true_eq] at this
  exact ⟨rfl, Nat.le_refl _, this.2.2, this.1, this.2.1⟩
theorem Fd.shaped {n w : Nat} {d : PyData} (h : Fd n w d) (hn : n ≤ 64) : SeqAt.shaped d = true := by
  have := h.dep
  unfold SeqAt.shaped
  rw [h.lay, decide_eq_true (by omega : d.depth ≤ 64)]
  rfl
theorem Fd.short {n w : Nat} {d : PyData} (h : Fd n w d) (hn : n ≤ 64) (hw : w ≤ 1048576) : d.shown.length ≤ sizeLine := by
  have h1 := h.dep
  have h2 := h.wei
  have hl : PyData.layable0 d = true := by
    unfold PyData.layable0
    rw [h.lay, decide_eq_true (by omega : d.depth ≤ 64), decide_eq_true (by omega : PyData.weight d ≤ 2 ^ 20)]
    rfl
  have := PyData.shown_le_of_layable0 hl h.ish
  rw [sizeLine_eq]
  omega
end Vd
namespace BK
open PySem PySem.Spec PyProof.Rows L2 Vr Vd
/-! ### what an answer shows -/
def askP (x : Option (Str × Nat × Str)) : Option (Str × Nat) := x.map fun q => (q.1, q.2.1)
def ansD (a : List Att × Option Str) : PyData := .tuple [.list (a.1.map attD), optD a.2]
def okS (x : Str) : Prop := PyData.strOk x = true ∧ x.length ≤ 10
structure Shw (es : List En) : Prop where
  nm : ∀ e ∈ es, okS e.nm
  ln : ∀ e ∈ es, ∀ m ∈ e.ms, m.cases.length ≤ 100
  c1 : ∀ e ∈ es, ∀ m ∈ e.ms, ∀ c ∈ m.cases, okS c.1
  c2 : ∀ e ∈ es, ∀ m ∈ e.ms, ∀ c ∈ m.cases, okS c.2
  en : ∀ e ∈ es, ∀ m ∈ e.ms, okS m.ending
theorem ans_mem {es : List En} : ∀ {qs : List (Str × Str × Str)}, ∀ a ∈ (answerL es qs).1, ∃ q ∈ qs, a.asked = q.1 ∧ a.side = q.2.1 ∧ a.place = askP (ask es q.1 q.2.1 q.2.2)
  | [], a, h => by cases h
  | q :: r, a, h => by
    rw [answerL] at h
    split at h
    · obtain ⟨q', h1, h2⟩ := ans_mem a h
      exact ⟨q', List.mem_cons_of_mem _ h1, h2⟩
    · cases hk : ask es q.1 q.2.1 q.2.2 with
      | none =>
        rw [hk] at h
        rcases List.mem_cons.mp h with rfl | h
        · exact ⟨q, List.mem_cons_self, rfl, rfl, by rw [hk]; rfl⟩
        · obtain ⟨q', h1, h2⟩ := ans_mem a h
          exact ⟨q', List.mem_cons_of_mem _ h1, h2⟩
      | some w =>
        obtain ⟨wh, wi, ws⟩ := w
        rw [hk] at h
        rw [List.mem_singleton.mp h]
        exact ⟨q, List.mem_cons_self, rfl, rfl, by rw [hk]; rfl⟩
theorem ans_len {es : List En} : ∀ {qs : List (Str × Str × Str)}, (answerL es qs).1.length ≤ qs.length
  | [] => Nat.le_refl _
  | q :: r => by
    have ih := ans_len (es := es) (qs := r)
    rw [answerL]
    split
    · exact Nat.le_succ_of_le ih
    · cases hk : ask es q.1 q.2.1 q.2.2 with
      | none => exact Nat.succ_le_succ ih
      | some w => exact Nat.succ_le_succ (Nat.zero_le _)
theorem ans_out {es : List En} : ∀ {qs : List (Str × Str × Str)}, (answerL es qs).2 = none ∨ ∃ q ∈ qs, ∃ h i s, ask es q.1 q.2.1 q.2.2 = some (h, i, s) ∧ (answerL es qs).2 = some (meant s q.1 q.2.2)
  | [] => .inl rfl
  | q :: r => by
    have ih := ans_out (es := es) (qs := r)
    rw [answerL]
    split
    · rcases ih with h | ⟨q', h1, h2⟩
      · exact .inl h
      · exact .inr ⟨q', List.mem_cons_of_mem _ h1, h2⟩
    · cases hk : ask es q.1 q.2.1 q.2.2 with
      | none =>
        rcases ih with h | ⟨q', h1, h2⟩
        · exact .inl h
        · exact .inr ⟨q', List.mem_cons_of_mem _ h1, h2⟩
      | some w =>
        obtain ⟨wh, wi, ws⟩ := w
        exact .inr ⟨q, List.mem_cons_self, wh, wi, ws, hk, rfl⟩
theorem que_len {es : List En} {l r : Str} {i : Bool} : (questions es l r i).length ≤ 3 := by
  unfold questions
  rw [List.length_append]
  have h1 : ∀ c : Bool, (if c = true then [(l, ("inplace" : Str), r)] else []).length ≤ 1 := fun c => by cases c <;> simp
  have h2 : (if prior es l r = true then [(r, ("reflected" : Str), l), (l, ("forward" : Str), r)] else if l = r then [(l, ("forward" : Str), r)] else [(l, ("forward" : Str), r), (r, ("reflected" : Str), l)]).length ≤ 2 := by
    split
    · simp
    · split <;> simp
  have := h1 i
  omega
theorem side_que {es : List En} {l r : Str} {i : Bool} : ∀ q ∈ questions es l r i, q.2.1 = "forward" ∨ q.2.1 = "reflected" ∨ q.2.1 = "inplace" := by
  intro q hq
  unfold questions at hq
  rcases List.mem_append.mp hq with hq | hq
  · split at hq
    · rw [List.mem_singleton.mp hq]
      exact .inr (.inr rfl)
    · cases hq
  · split at hq
    · rcases List.mem_cons.mp hq with rfl | hq
      · exact .inr (.inl rfl)
      · rw [List.mem_singleton.mp hq]
        exact .inl rfl
    · split at hq
      · rw [List.mem_singleton.mp hq]
        exact .inl rfl
      · rcases List.mem_cons.mp hq with rfl | hq
        · exact .inl rfl
        · rw [List.mem_singleton.mp hq]
          exact .inr (.inl rfl)
theorem fd_ok {x : Str} (h : okS x) {n : Nat} : Fd n 10 (.str x) := (fd_str h.1 h.2).mono (Nat.zero_le _) (Nat.le_refl _)
theorem ok_side {s : Str} (h : s = "forward" ∨ s = "reflected" ∨ s = "inplace") : okS s := by
  rcases h with rfl | rfl | rfl <;> exact ⟨by decide +kernel, by decide +kernel⟩
section
variable {es : List En} (g : GoodB es) (se : Shw es)
include g in
/-- what is asked: its class, its case -/
theorem ask_case {n : En} (hn : n ∈ es) {side h s o : Str} {i : Nat} (e : ask es n.nm side o = some (h, i, s)) : ∃ x ∈ es, x.nm = h ∧ ∃ m ∈ x.ms, mAt x.ms side = some m ∧ ∃ c, m.cases[i]? = some c ∧ c.2 = s := by
  obtain ⟨q, hq, rfl, c, hc, z⟩ := askL_at e
  obtain ⟨h1, h2⟩ := stand_in hq
  obtain ⟨x, hx, zx⟩ := line_mem h1
  rw [← zx, g.msOf hx] at h2
  exact ⟨x, hx, zx, q.2, mAt_mem h2, h2, c, hc, z⟩
include g in
/-- what an attempt says -/
theorem att_case {l r : En} (hl : l ∈ es) (hr : r ∈ es) {i : Bool} : ∀ a ∈ (answer es l.nm r.nm i).1, (∃ x ∈ es, x.nm = a.asked) ∧ (a.side = "forward" ∨ a.side = "reflected" ∨ a.side = "inplace") ∧ ∀ h k, a.place = some (h, k) → ∃ x ∈ es, x.nm = h ∧ ∃ m ∈ x.ms, mAt x.ms a.side = some m ∧ ∃ c, m.cases[k]? = some c := by
  intro a ha
  obtain ⟨q, hq, e1, e2, e3⟩ := ans_mem a ha
  have sd := side_que q hq
  have nn : (∃ n ∈ es, n.nm = q.1) := by
    rcases que_names q hq with ⟨z, _⟩ | ⟨z, _⟩
    · exact ⟨l, hl, z.symm⟩
    · exact ⟨r, hr, z.symm⟩
  refine ⟨by rw [e1]; exact nn, by rw [e2]; exact sd, fun h k hk => ?_⟩
  obtain ⟨n, hn, zn⟩ := nn
  rw [e3] at hk
  cases hw : ask es q.1 q.2.1 q.2.2 with
  | none =>
    rw [hw] at hk
    cases hk
  | some w =>
    obtain ⟨wh, wi, ws⟩ := w
    rw [hw] at hk
    cases hk
    rw [← zn] at hw
    obtain ⟨x, hx, z1, m, hm, hm2, c, hc, _⟩ := ask_case g hn hw
    rw [e2]
    exact ⟨x, hx, z1, m, hm, hm2, c, hc⟩
include g se in
theorem fd_att {l r : En} (hl : l ∈ es) (hr : r ∈ es) {i : Bool} : ∀ a ∈ (answer es l.nm r.nm i).1, Fd 2 56 (attD a) := by
  intro a ha
  obtain ⟨⟨x, hx, zx⟩, sd, pl⟩ := att_case g hl hr a ha
  have p1 : Fd 1 33 (plD a.side a.place) := by
    cases hk : a.place with
    | none => exact fd_non.mono (Nat.zero_le _) (Nat.zero_le _)
    | some w =>
      obtain ⟨wh, wi⟩ := w
      obtain ⟨y, hy, z, m, hm, _, c, hc⟩ := pl wh wi hk
      subst z
      have h2 : wi < 128 := by
        have := (List.getElem?_eq_some_iff.mp hc).1
        have := se.ln y hy m hm
        omega
      exact Fd.tup (.cons (fd_ok (se.nm y hy)) (.cons (fd_ok (ok_side sd)) (.cons (fd_nat h2) (.nil (w := 0)))))
  unfold attD
  rw [← zx]
  exact Fd.tup (.cons (fd_ok (se.nm x hx)) (.cons (fd_ok (ok_side sd)) (.cons p1 (.nil (w := 0)))))
include g se in
theorem fd_ans {l r : En} (hl : l ∈ es) (hr : r ∈ es) {i : Bool} : Fd 4 183 (ansD (answer es l.nm r.nm i)) := by
  have a1 := FdAll.map (f := attD) (fd_att g se hl hr (i := i))
  have a2 : (answer es l.nm r.nm i).1.length ≤ 3 := Nat.le_trans ans_len que_len
  have a3 : FdAll 2 171 ((answer es l.nm r.nm i).1.map attD) := a1.mono (Nat.le_refl _) (by omega)
  have a4 : Fd 3 10 (optD (answer es l.nm r.nm i).2) := by
    rcases ans_out (es := es) (qs := questions es l.nm r.nm i) with z | ⟨q, hq, h, k, s, e, z⟩
    · have z : (answer es l.nm r.nm i).2 = none := z
      rw [z]
      exact fd_non.mono (Nat.zero_le _) (Nat.zero_le _)
    · have z : (answer es l.nm r.nm i).2 = some (meant s q.1 q.2.2) := z
      rw [z]
      have nn : (∃ n ∈ es, n.nm = q.1) ∧ (∃ o ∈ es, o.nm = q.2.2) := by
        rcases que_names q hq with ⟨z, z'⟩ | ⟨z, z'⟩
        · exact ⟨⟨l, hl, z.symm⟩, ⟨r, hr, z'.symm⟩⟩
        · exact ⟨⟨r, hr, z.symm⟩, ⟨l, hl, z'.symm⟩⟩
      obtain ⟨⟨n, hn, zn⟩, ⟨o, ho, zo⟩⟩ := nn
      rw [← zn, ← zo] at e ⊢
      obtain ⟨x, hx, _, m, hm, _, c, hc, rfl⟩ := ask_case g hn e
      show Fd 3 10 (.str (meant c.2 n.nm o.nm))
      unfold meant
      split
      · exact fd_ok (se.nm n hn)
      · split
        · exact fd_ok (se.nm o ho)
        · exact fd_ok (se.c2 x hx m hm c (List.mem_of_getElem? hc))
  exact Fd.tup (.cons (Fd.lst a3) (.cons a4 (.nil (w := 0))))
end
end BK
namespace Vc
open PySem PySem.Spec PyProof.Rows L2 SlX
/-! ### ==, len, str, repr of an instance, by its class's own defs -/
section
variable {X : Cx} {C g : Addr} {sp : Sp} {E : XK} {n : Nat} {CXs : CXT}
/-- x op y, x an instance whose class has a def for op; y an instance of a class that does not go first -/
def rOwnI (K : PySem.W.Frag) (C : Addr) (sp : Sp) (E : XK) : R2 := fun x y H Q => ∃ a dx fs b C' dy gs, x = .ref a ∧ y = .ref b ∧ H a = some (.ins C dx fs) ∧ H b = some (.ins C' dy gs) ∧ PySem.W.notFirst K C (.ref C') = true ∧ sp [x, y] H Q E
theorem op_ownI {op : CmpOp} (hop : ∀ a b, compareOp op a b = richCompare op a b) (hs : PySem.W.findIn X.K (.ref C) (cmpInfo op).2.1 = some (some (.ref g))) (hf : PySem.W.isFn X.K (.ref g) = true) (F : FnR X.prog X.w X.K X.mg X.base CXs n g sp)
    (hr : Room n X.A) (hx : Passes CXs X E) : OpR X (compareOp op) (rOwnI X.K C sp E) := by
  intro pins s σ H x y v u Q I rx ry h
  obtain ⟨a, dx, fs, b, C', dy, gs, rfl, rfl, ha, hb, hn, q⟩ := h
  cases (show v = Value.ref a from rx)
  cases (show u = Value.ref b from ry)
  obtain ⟨mA, O, _⟩ := ins_get I.hok ha
  obtain ⟨mB, O', _⟩ := ins_get I.hok hb
  obtain ⟨od, J, _⟩ := O.look
  obtain ⟨od', J', _⟩ := O'.look
  obtain ⟨m, hF⟩ := I.fr
  rw [hop]
  refine PySem.W.cmp_K (op := op) (tb := .ref C') hr.units0 hF I.ok.mod.kin J J'.type hn hs hf ?_
  refine wpAny_mono (wpAny_call (run_fnR (us := [.ref a, .ref b]) (vs := [.ref a, .ref b]) F hr hx I (.cons rfl (.cons rfl .nil)) q)) (fun w s' z => ?_) fun _ _ x => x
  obtain ⟨z', H', I', rz, qz⟩ := z
  exact cmpback rz ⟨z', H', I', rz, qz⟩
def rLenI (C : Addr) (sp : Sp) (E : XK) : List V → Hp → VK → Prop := fun xs H Q => ∃ a dx fs, xs = [V.ref a] ∧ H a = some (.ins C dx fs) ∧ sp [.ref a] H (fun z H' => ∃ i : Int, z = .int i ∧ 0 ≤ i ∧ i < 2 ^ 63 ∧ Q z H') E
theorem call_lenI (hs : PySem.W.findIn X.K (.ref C) "__len__" = some (some (.ref g))) (hf : PySem.W.isFn X.K (.ref g) = true) (F : FnR X.prog X.w X.K X.mg X.base CXs n g sp) (hr : Room (n + 1) X.A) (hx : Passes CXs X E) : CallR X (.builtin "len") (rLenI C sp E) := by
  intro pins s σ H xs us Q I r h
  obtain ⟨a, dx, fs, rfl, ha, q⟩ := h
  obtain ⟨u, rfl, ru⟩ := r.one
  cases (show u = Value.ref a from ru)
  obtain ⟨mA, O, _⟩ := ins_get I.hok ha
  obtain ⟨od, J, _⟩ := O.look
  obtain ⟨m, hF⟩ := I.fr
  refine PySem.W.len_K hF I.ok.mod.kin J hs hf (wpAny_mono (wpAny_call (run_at (us := [.ref a]) (ws := [.ref a]) F hr.in1 I.env0.in1 hx I (.cons rfl .nil) q)) (fun w s' z => ?_) fun _ _ x => x)
  obtain ⟨z', H', I', rz, i, ei, i0, i1, qz⟩ := z
  subst ei
  obtain ⟨t, e⟩ := (show ∃ t, w = Value.int i t from rz)
  cases e
  exact ⟨⟨i0, i1⟩, .int i, H', I'.tok _, ⟨_, rfl⟩, qz⟩
def rStrI (C : Addr) (sp : Sp) (E : XK) : List V → Hp → VK → Prop := fun xs H Q => ∃ a dx fs, xs = [V.ref a] ∧ H a = some (.ins C dx fs) ∧ sp [.ref a] H (fun z H' => ∃ i : Str, z = .str i ∧ Q z H') E
theorem call_reprI (hs : PySem.W.findIn X.K (.ref C) "__repr__" = some (some (.ref g))) (hf : PySem.W.isFn X.K (.ref g) = true) (F : FnR X.prog X.w X.K X.mg X.base CXs n g sp) (hr : Room (n + 1) X.A) (hx : Passes CXs X E) : CallR X (.builtin "repr") (rStrI C sp E) := by
  intro pins s σ H xs us Q I r h
  obtain ⟨a, dx, fs, rfl, ha, q⟩ := h
  obtain ⟨u, rfl, ru⟩ := r.one
  cases (show u = Value.ref a from ru)
  obtain ⟨mA, O, _⟩ := ins_get I.hok ha
  obtain ⟨od, J, _⟩ := O.look
  obtain ⟨m, hF⟩ := I.fr
  refine PySem.W.repr_K hr.in1.units0 hF I.ok.mod.kin J hs hf (wpAny_mono (wpAny_call (run_at (us := [.ref a]) (ws := [.ref a]) F hr.in1 I.env0.in1 hx I (.cons rfl .nil) q)) (fun w s' z => ?_) fun _ _ x => x)
  obtain ⟨z', H', I', rz, i, ei, qz⟩ := z
  subst ei
  obtain ⟨t, e⟩ := (show ∃ t, w = Value.str i t from rz)
  cases e
  exact ⟨.str i, H', I', ⟨_, rfl⟩, qz⟩
theorem call_strI (hs : PySem.W.findIn X.K (.ref C) "__str__" = some (some (.ref g))) (hf : PySem.W.isFn X.K (.ref g) = true) (F : FnR X.prog X.w X.K X.mg X.base CXs n g sp) (hr : Room (n + 2) X.A) (hx : Passes CXs X E) : CallR X (.type "str") (rStrI C sp E) := by
  intro pins s σ H xs us Q I r h
  obtain ⟨a, dx, fs, rfl, ha, q⟩ := h
  obtain ⟨u, rfl, ru⟩ := r.one
  cases (show u = Value.ref a from ru)
  obtain ⟨mA, O, _⟩ := ins_get I.hok ha
  obtain ⟨od, J, _⟩ := O.look
  have hr2 : Room n X.A.in1.in1 := (show Room (n + 1) X.A.in1 from Room.in1 hr).in1
  refine PySem.W.kso_call hr2.units0 I.kIn J hs hf (wpAny_mono (wpAny_call (run_at (us := [.ref a]) (ws := [.ref a]) F hr2 I.env0.in1.in1 hx I (.cons rfl .nil) q)) (fun w s' z => ?_) fun _ _ x => x)
  obtain ⟨z', H', I', rz, i, ei, qz⟩ := z
  subst ei
  obtain ⟨t, e⟩ := (show ∃ t, w = Value.str i t from rz)
  cases e
  exact ⟨.str i, H', I', ⟨_, rfl⟩, qz⟩
end
/-- the type of an instance -/
theorem tyIns {K : PySem.W.Frag} {H : Hp} {a C dx : Addr} {fs : List (Str × V)} (cl : Cls K C) (i : SIsi K C) (h : H a = some (.ins C dx fs)) : TyX K H (.ref a) (.ref C) := .base (.ins h cl i.ca i.cn i.ct i.cm)
theorem kitSame {K : PySem.W.Frag} (C : Addr) : PySem.W.kitOne K (.ref C) (.ref C) = some true := by
  unfold PySem.W.kitOne
  rw [if_pos (by simp)]
end Vc
namespace Vq
open PySem PySem.Spec PyProof.Rows L2
/-! ### a dict comprehension whose keys are tuples -/
section
variable {X : Cx} {pins : List (Addr × Obj)} {σ : L2.St} {H : Hp} {s : Shared}
/-- D[y] = z by a comprehension, D's keys tuples -/
theorem dt_set {E : Value → Shared → Prop} {D b : Addr} {kvs : List (List Key × V)} {k : List Key} {z : V} {r : Value} {Q : Unit → Shared → Prop} (hu : X.A.units + 1 < cLine) (I : Inv X pins σ H s) (e : H D = some (.dT kvs)) (eb : H b = some (.tup (k.map kV)))
    (l : kvs.length < sizeLine) (rz : RelV z r) (h : ∀ s', Inv X pins σ (upd H D (.dT (putK kvs k z))) s' → Q () s') : wpAny (model X.prog X.w) X.A (dictSet D (.ref b) r) Q E s := by
  obtain ⟨big, nsys, xs, rel, of⟩ := dt_of I.hok e
  have room : xs.length ≤ sizeLine := (Paired.length rel) ▸ big
  have room2 : (putK kvs k z).length ≤ sizeLine := Nat.le_trans (length_putK kvs k z) l
  refine wpAny_dictSet_heap (hsz := room) (show X.A.units < cLine by omega) (key_of I.hok eb) of fun hp of2 but => h _ ?_
  obtain ⟨o2, es2, ep2, at2, c2, d2, n2, _, u2⟩ := of2
  have mu : Mut (H D) := by rw [e]; exact True.intro
  have stay : ∀ c ys, H c = some (.tup ys) → (upd H D (.dT (putK kvs k z))) c = some (.tup ys) := fun c ys q => (upd_ne (ne_of q e (by intro x; cases x))).trans q
  exact d_write I mu but ⟨o2, at2⟩ ⟨room2, nsys, _, (rel.put k eb rz).keeps stay, o2, es2, ep2, at2, c2, d2, n2, u2⟩
end
section
variable {X : Cx}
/-- {k: v for target in iter if ..}: what is asked, turn by turn; D the new dict -/
def tDcT (wi : TI) (g : TG) (tt : TT) (tk tv : TE) (own : List Nat) : TE := fun σ H Q =>
  wi σ H fun J H1 => ∀ D, H1 D = none → ∃ W : Nat → Nat → Hp → Prop, (∃ m, W 0 m (upd H1 D (.dT []))) ∧
    ∀ i m H2, W i m H2 → (J.stop i H2 ∧ Q (.ref D) H2) ∨ (J.go i H2 ∧ ∃ Nx : Hp → Prop, (∀ H3, Nx H3 → ∃ m', m' < m ∧ W (i + 1) m' H3) ∧
      ∀ x H3, J.yld i H2 x H3 → g x (wipe σ own) H3 fun σ4 H4 => wipe σ4 own = wipe σ own ∧ tt σ4 H4 fun c H5 => if c = true then
        (tk σ4 H5 fun y H6 => tv σ4 H6 fun z H7 => ∃ kvs k b, y = .ref b ∧ H7 b = some (.tup (k.map kV)) ∧ H7 D = some (.dT kvs) ∧ kvs.length < sizeLine ∧ Nx (upd H7 D (.dT (putK kvs k z))))
      else Nx H5)
theorem pe_dcT {kx vx tg iter : Expr} {ifs : List Expr} {scope : Scope} {own : List (Str × Nat)} {pos : Pos} {wi : TI} {g : TG} {tt : TT} {tk tv : TE} (hu : X.A.units + 1 < cLine) (calm : X.calm = true) (nd : X.N.Nodup) (hi : PI X tg iter wi) (ok : BlkOk X.N X.env.scope scope own)
    (hg : ∀ s1 H1 C cl fp, PG (X.blk s1 H1 scope (compEnvC scope cl C X.env) fp) tg g)
    (ht : ∀ s1 H1 C cl fp, PTs (X.blk s1 H1 scope (compEnvC scope cl C X.env) fp) ifs tt)
    (hk : ∀ s1 H1 C cl fp, PE (X.blk s1 H1 scope (compEnvC scope cl C X.env) fp) kx tk)
    (hv : ∀ s1 H1 C cl fp, PE (X.blk s1 H1 scope (compEnvC scope cl C X.env) fp) vx tv)
    (plain : ∀ x, foldedSetIterable iter X.env x = pure x := by intro _; rfl) : PE X (.DictComp kx vx [⟨tg, iter, ifs, 0⟩] scope pos) (tDcT wi g tt tk tv (own.map (·.2))) := by
  refine ⟨fun pins s σ H Q I h => ?_⟩
  rw [arm_eval_DictComp]
  have free : ∀ y ∈ scope.names, y.2 = .free → ∃ c, X.env.cells.lookup y.1 = some c := fun y hy e =>
    (ok.free y hy e).elim (fun z => I.ok.has _ (.inl z)) fun z => I.ok.has _ (.inr z)
  refine wpAny_comprehension_free rfl plain (closure_ok free) ok.kind (fun y hy e => by rw [ok.uniq y hy, e]) ?_
  refine thn (hi.run pins s σ H _ I h) fun xv sA hx => thn hx fun itv sB got => ?_
  obtain ⟨it, fp, tn, J, HB, rfl, IB, T, stB, fpB, q⟩ := got
  refine wpAny_newObj_type (newEnv_comp ?_)
  generalize eD : sB.heap.objs.size = D
  obtain ⟨W, ⟨m0, w0⟩, turn⟩ := q D (IB.hok.fresh (Nat.le_of_eq eD))
  -- the dict is laid
  generalize eC : ({ sB with heap := sB.heap.push { cls := .type "dict", data := .dict #[] } } : Shared) = sC
  have hC : sC.heap = sB.heap.push { cls := .type "dict", data := .dict #[] } := by rw [← eC]
  have IC : Inv X pins σ (upd HB D (.dT [])) sC := by
    rw [← eC, ← eD]
    exact IB.laid (t' := sB.toks) (fun _ _ e => Heap.get?_push_of_some _ e) (Nat.le_refl _) (dt_empty sB.heap IB.big)
  have low : ∀ b ∈ fp, b < sB.heap.objs.size := fun b hb => Heap.lt_size (T.obj _ _ stB b hb).choose_spec.1
  have fpC : ∀ b ∈ fp, FpOk X pins (upd HB D (.dT [])) b ∧ b < sC.heap.objs.size := fun b hb => by
    have lt := low b hb
    have nD : b ≠ D := fun z => by rw [z, ← eD] at lt; exact Nat.lt_irrefl _ lt
    refine ⟨⟨(upd_ne nD).trans (fpB b hb).1, (fpB b hb).2⟩, ?_⟩
    rw [hC, Heap.size_push]
    exact Nat.lt_succ_of_lt lt
  have stC : tn 0 sC.heap := T.keep _ _ _ stB fun _ _ _ e => by rw [hC]; exact Heap.get?_push_of_some _ e
  generalize eN : sC.heap.objs.size = N
  generalize eCl : cellsFrom (N + 1) scope.names (cloFrom X.env.cells scope.names []) = cl
  have ID := block_start IC ok nd fpC
  rw [eN, eCl] at ID
  have pG := hg sC (upd HB D (.dT [])) N cl fp
  have pT := ht sC (upd HB D (.dT [])) N cl fp
  have pK := hk sC (upd HB D (.dT [])) N cl fp
  have pV := hv sC (upd HB D (.dT [])) N cl fp
  have none0 : ∀ b ∈ fp, (upd HB D (.dT [])) b = none := fun b hb => (fpC b hb).1.1
  generalize eEnv : compEnvC scope cl N X.env = ce at ID pG pT pK pV
  have locC : ce.locals = N := by subst eEnv; rfl
  generalize upd HB D (.dT []) = HC at IC ID pG pT pK pV w0 none0 fpC
  generalize eS : ({ sC with heap := pushCells (sC.heap.push { cls := .type "dict", data := .dict #[] }) scope.names } : Shared) = sD at ID
  have stD : tn 0 sD.heap := T.keep _ _ _ stC fun _ _ _ e => by rw [← eS]; exact pushCells_keeps _ _ _ _ (Heap.get?_push_of_some _ e)
  have still : ∀ {σ' H' s'}, Inv (X.blk sC HC scope ce fp) [] σ' H' s' → (∀ b ∈ fp, H' b = none) → ∀ b ∈ fp, FpOk (X.blk sC HC scope ce fp) [] H' b := fun {σ' H' s'} J' non b hb =>
    ⟨non b hb, (J'.ok.exf b hb).1, J'.ok.exfs b hb, Or.inl hb, fun x c e => (J'.ok.exf b hb).2 x c e, fun p hp => (List.not_mem_nil (show p ∈ ([] : List (Addr × Obj)) from hp)).elim⟩
  have uB : (X.blk sC HC scope ce fp).A.units + 1 < cLine := hu
  -- its turns
  have loop : codeAny (model X.prog X.w) X.A (.compLoop (.DictComp kx vx [⟨tg, iter, ifs, 0⟩] scope pos) 0 (.ref it) (.ref D) ce) (compPost (model X.prog X.w) X.A X.xe none (EP X pins σ Q) (.ref D) N) sD := by
    refine compLoop_anyD (fun n s' => ∃ i H', Inv (X.blk sC HC scope ce fp) [] (wipe σ (own.map (·.2))) H' s' ∧ tn i s'.heap ∧ (∀ b ∈ fp, H' b = none) ∧ W i n H') ?_ m0 ⟨0, HC, ID, stD, none0, w0⟩
    rintro n sE ⟨i, HE, IE, stE, nonE, wE⟩
    rcases turn i n HE wE with ⟨over, qq⟩ | ⟨more, Nx, hNx, step⟩
    · refine thnF (T.done (X.blk sC HC scope ce fp) rfl rfl rfl calm i [] sE _ HE (fun _ _ => False) IE (still IE nonE) stE over) fun r sF ⟨hr, IF⟩ => ?_
      subst hr
      have out : Inv X pins σ HE sF := IC.call' (ch := fp) IF.os IF.base IF.hok IF.bare fun b hb => by
        obtain ⟨z, _⟩ := fpC b hb
        exact ⟨z.2.2.2.1, z.2.1, z.2.2.2.2.1, z.2.2.2.2.2⟩
      have noN : HE N = none := by
        have z : HE ce.locals = none := IF.free
        rwa [locC] at z
      obtain ⟨m, hm, _⟩ := IF.loc
      have hm : sF.heap.Ns ce.locals m := hm
      rw [locC] at hm
      obtain ⟨g0, g1, g2, g3, g4, g5⟩ := IC.fpOk (Nat.le_of_eq eN) noN
      exact ⟨m, hm, fun h'' sb => ⟨.ref D, HE, out.turned (t' := sF.toks) (fun b o hb e => (sb.2 b hb).trans e) g0 g1 g3 g4 g5, rfl, qq⟩⟩
    · refine thnF (T.item (X.blk sC HC scope ce fp) rfl rfl rfl calm i [] sE _ HE (fun _ _ => False) IE (still IE nonE) stE more) fun r sF ⟨u, hr, yes⟩ => ?_
      subst hr
      refine thnF yes fun _ sG ⟨x, HG, IG, rG, yG, stG, nonG⟩ => ?_
      have pin := IG.pinned (still IG nonG) (T.obj _ _ stG)
      refine thnF (pG.run _ sG _ HG x u _ pin rG (step x HG yG)) fun _ sH ⟨σH, HH, IH, wH, qH⟩ => ?_
      refine thnF (pT.run _ sH σH HH _ IH qH) fun c sI ⟨HI, II, qI⟩ => ?_
      have back : ∀ {s' : Shared} {H' : Hp}, Inv (X.blk sC HC scope ce fp) ([] ++ pinsAt fp sG.heap) σH H' s' → Nx H' → ∃ m, m < n ∧ ∃ i H', Inv (X.blk sC HC scope ce fp) [] (wipe σ (own.map (·.2))) H' s' ∧ tn i s'.heap ∧ (∀ b ∈ fp, H' b = none) ∧ W i m H' := by
        intro s' H' J' nx
        obtain ⟨m', lt, w'⟩ := hNx H' nx
        have kept : ∀ b ∈ fp, ∀ o, sG.heap.get? b = some o → s'.heap.get? b = some o ∧ H' b = none := fun b hb o e => by
          obtain ⟨z1, z2, _⟩ := J'.pin (b, o) (List.mem_append_right _ (List.mem_append_right _ (mem_pinsAt hb e)))
          exact ⟨z1, z2⟩
        have len : (wipe σ (own.map (·.2))).length = σH.length := (congrArg List.length wH).symm.trans (wipe_length _ _)
        have weak := (J'.unpinned (pins := [])).weak len fun j v e => (wipe_some (wH ▸ e)).1
        exact ⟨m', lt, i + 1, H', weak, T.keep _ _ _ stG fun b hb o e => (kept b hb o e).1, fun b hb => (kept b hb _ (T.obj _ _ stG b hb).choose_spec.1).2, w'⟩
      cases c with
      | false => exact back II (by simpa using qI)
      | true =>
        have qI := (by simpa using qI)
        refine thnF (pK.run _ sI σH HI _ II qI) fun z sJ ⟨y, HJ, IJ, rJ, qJ⟩ => ?_
        refine thnF (pV.run _ sJ σH HJ _ IJ qJ) fun z2 sK ⟨v, HK, IK, rK, kvs, k, b, ey, eb, eD2, lK, nx⟩ => ?_
        subst ey
        cases (show z = Value.ref b from rJ)
        exact dt_set (X := X.blk sC HC scope ce fp) uB IK eD2 eb lK rK fun sL IL => back IL nx
  have fin := codeAny_compStart_dict loop (T.self X.A 0 _ _ _ stD loop)
  subst eS eEnv
  exact fin
theorem dcT_walk {J : It} {n : Nat} {G : Hp → Prop} {Y : Nat → Hp → V → Hp → Prop} (w : Walk J n G Y) {g : TG} {tt : TT} {tk tv : TE} {vs : List Nat} {σ : L2.St} {H : Hp} {D : Addr} {Qd : Hp → Prop} (inv : Nat → Hp → Prop)
    (init : inv 0 (upd H D (.dT []))) (keep : ∀ i H', i ≤ n → inv i H' → G H')
    (step : ∀ i x H' H'', i < n → inv i H' → Y i H' x H'' → g x (wipe σ vs) H'' fun s2 h2 => wipe s2 vs = wipe σ vs ∧ tt s2 h2 fun c h3 =>
      if c = true then tk s2 h3 fun y h4 => tv s2 h4 fun z h5 => ∃ kvs k b, y = .ref b ∧ h5 b = some (.tup (k.map kV)) ∧ h5 D = some (.dT kvs) ∧ kvs.length < sizeLine ∧ inv (i + 1) (upd h5 D (.dT (putK kvs k z))) else inv (i + 1) h3)
    (done : ∀ H', inv n H' → Qd H') : ∃ R : Nat → Nat → Hp → Prop, (∃ m, R 0 m (upd H D (.dT []))) ∧ ∀ i m h, R i m h → (J.stop i h ∧ Qd h) ∨
      (J.go i h ∧ ∃ Nx : Hp → Prop, (∀ h', Nx h' → ∃ m', m' < m ∧ R (i + 1) m' h') ∧ ∀ x h', J.yld i h x h' → g x (wipe σ vs) h' fun s2 h2 => wipe s2 vs = wipe σ vs ∧ tt s2 h2 fun c h3 =>
        if c = true then tk s2 h3 fun y h4 => tv s2 h4 fun z h5 => ∃ kvs k b, y = .ref b ∧ h5 b = some (.tup (k.map kV)) ∧ h5 D = some (.dT kvs) ∧ kvs.length < sizeLine ∧ Nx (upd h5 D (.dT (putK kvs k z))) else Nx h3) := by
  refine ⟨fun i m h => m + i = n ∧ inv i h, ⟨n, by omega, init⟩, ?_⟩
  rintro i m h ⟨hm, p⟩
  have q := keep i h (by omega) p
  rcases Nat.lt_or_ge i n with lt | ge
  · exact .inr ⟨w.goes i h lt q, inv (i + 1), fun h' p' => ⟨m - 1, by omega, by omega, p'⟩, fun x h' y => step i x h h' lt p (w.yields i h x h' lt q y)⟩
  · have e : i = n := by omega
    subst e
    exact .inl ⟨w.stops h q, done h p⟩
end
end Vq
namespace Vq
open PySem PySem.Spec PyProof.Rows L2
/-! ### == of two dicts whose keys are tuples -/
section
variable {prog : Program} {w : World} {κ : Type} [DecidableEq κ] {knd : HeapKind prog w κ} {A : Around} {E : Value → Shared → Prop} {s : Shared}
/-- entry by entry: is it in the other dict, with an equal value -/
inductive HitT (A : Around) (s : Shared) (ys : List (κ × Addr × Value)) : List (κ × Addr × Value) → Bool → Prop
  | nil : HitT A s ys [] true
  | out {x : κ × Addr × Value} {r : List (κ × Addr × Value)} (h : atKey ys x.1 = none) : HitT A s ys (x :: r) false
  | both {x : κ × Addr × Value} {q : Addr × Value} {r : List (κ × Addr × Value)} {e c : Bool} (h : atKey ys x.1 = some q) (v : SeqAt.EqAt A s x.2.2 q.2 e) (t : HitT A s ys r c) : HitT A s ys (x :: r) (e && c)
theorem same_heap {nm : String} {a b : Addr} {xs ys : List (κ × Addr × Value)} {r : Bool} {Q : Bool → Shared → Prop} (hu : knd.room A) (na : (a == sysModules) = false) (nb : (b == sysModules) = false)
    (da : s.heap.DictOfH knd a xs) (db : s.heap.DictOfH knd b ys) (len : xs.length = ys.length) (hit : HitT A s ys xs r) (q : Q r s) : wpAny (model prog w) A (Builtin.Dict.samePairs nm a b) Q E s := by
  obtain ⟨oa, ea, pa, ga, _, ia, la, ka, _⟩ := da
  obtain ⟨ob, eb, pb, gb, _, ib, lb, kb, ub⟩ := db
  have za : ea.size = xs.length := size_of_entries la
  have zb : eb.size = ys.length := size_of_entries lb
  unfold Builtin.Dict.samePairs Builtin.Dict.showsAll
  rw [if_neg (fun z => Bool.false_ne_true (na.symm.trans z)), if_neg (fun z => Bool.false_ne_true (nb.symm.trans z))]
  refine wpAny_bind (wpAny_pure (wpAny_bind (wpAny_pure (wpAny_bind (wpAny_dictEntries ga ia ?_)))))
  refine wpAny_bind (wpAny_dictEntries gb ib ?_)
  rw [if_neg (by rw [za, zb, len]; simp)]
  refine wpAny_bind (wpAny_dictEpoch ga ia (wpAny_bind ?_))
  rw [Std.Legacy.Range.forIn_eq_forIn_range']
  simp only [Std.Legacy.Range.size, Nat.sub_zero, Nat.add_sub_cancel, Nat.div_one]
  have stop : ∀ {c : Bool} {t : Option Bool × Unit}, t = (some c, ()) → Q c s → wpAny (model prog w) A (match t.1 with | some z => pure z | none => pure true : Sem Bool) Q E s := fun e q => by
    subst e
    exact wpAny_pure q
  refine wpAny_forIn_list _ (fun l t s2 => s2 = s ∧ t = (none, ()) ∧ ∃ i, i ≤ ea.size ∧ l = List.range' i (ea.size - i) ∧ HitT A s ys (xs.drop i) r) _ ?_ ?_ _ _ ⟨rfl, rfl, 0, Nat.zero_le _, rfl, hit⟩
  · rintro i l t s2 ⟨rfl, rfl, j, hj, el, hr⟩
    have jl : j < ea.size := by
      rcases Nat.lt_or_ge j ea.size with z | z
      · exact z
      · rw [Nat.sub_eq_zero_of_le z] at el
        cases el
    rw [show ea.size - j = (ea.size - (j + 1)) + 1 by omega, List.range'_succ] at el
    injection el with e1 e2
    subst e1 e2
    have jx : i < xs.length := za ▸ jl
    obtain ⟨x, hx⟩ : ∃ x, xs[i]? = some x := ⟨_, List.getElem?_eq_getElem jx⟩
    have dr : xs.drop i = x :: xs.drop (i + 1) := by
      rw [List.drop_eq_getElem_cons jx]
      congr 1
      exact Option.some.inj ((List.getElem?_eq_getElem jx).symm.trans hx)
    rw [dr] at hr
    have kx : knd.is s2.heap x.1 x.2.1 := ka x (List.mem_of_getElem? hx)
    refine wpAny_bind (wpAny_dictEntries ga ia ?_)
    rw [entry_at la i, hx]
    show wpAny (model prog w) A (holding [Value.ref x.2.1, x.2.2] _ >>= _) _ _ _
    refine wpAny_bind (wpAny_holding (wpAny_bind (wpAny_dictFind_heap hu kx gb ib lb kb ub ?_ ?_)))
    · intro no
      have nn := atKey_none_of_get no
      cases hr with
      | out h => exact wpAny_pure (by rw [if_pos (show (!false) = true from rfl)]; exact wpAny_pure (stop rfl q))
      | both h v t =>
        rw [nn] at h
        cases h
    · intro m p hm
      have yy := atKey_of_get ub hm
      cases hr with
      | out h =>
        rw [yy] at h
        cases h
      | @both _ q0 _ e c h v t =>
        rw [yy] at h
        cases h
        refine wpAny_bind (wpAny_dictEntries gb ib ?_)
        rw [entry_at lb m, hm]
        refine wpAny_holding (v prog w _ _ ?_)
        cases e with
        | false =>
          show wpAny _ _ (if (!false) = true then _ else _) _ _ _
          rw [if_pos (by decide)]
          exact wpAny_pure (stop rfl q)
        | true =>
          show wpAny _ _ (if (!true) = true then _ else _) _ _ _
          rw [if_neg (by decide)]
          refine wpAny_bind (wpAny_dictEpoch ga ia ?_)
          rw [if_neg (by simp)]
          exact wpAny_pure ⟨rfl, rfl, i + 1, jl, rfl, by simpa using t⟩
  · rintro t s2 ⟨rfl, rfl, j, hj, el, hr⟩
    have je : j = ea.size := by
      rcases Nat.lt_or_ge j ea.size with z | z
      · rw [show ea.size - j = (ea.size - (j + 1)) + 1 by omega, List.range'_succ] at el
        cases el
      · exact Nat.le_antisymm hj z
    rw [je, za, List.drop_length] at hr
    cases hr
    exact wpAny_pure q
theorem same_len {nm : String} {a b : Addr} {xs ys : List (κ × Addr × Value)} {Q : Bool → Shared → Prop} (na : (a == sysModules) = false) (nb : (b == sysModules) = false)
    (da : s.heap.DictOfH knd a xs) (db : s.heap.DictOfH knd b ys) (len : xs.length ≠ ys.length) (q : Q false s) : wpAny (model prog w) A (Builtin.Dict.samePairs nm a b) Q E s := by
  obtain ⟨oa, ea, pa, ga, _, ia, la, ka, _⟩ := da
  obtain ⟨ob, eb, pb, gb, _, ib, lb, kb, ub⟩ := db
  have za : ea.size = xs.length := size_of_entries la
  have zb : eb.size = ys.length := size_of_entries lb
  unfold Builtin.Dict.samePairs Builtin.Dict.showsAll
  rw [if_neg (fun z => Bool.false_ne_true (na.symm.trans z)), if_neg (fun z => Bool.false_ne_true (nb.symm.trans z))]
  refine wpAny_bind (wpAny_pure (wpAny_bind (wpAny_pure (wpAny_bind (wpAny_dictEntries ga ia ?_)))))
  refine wpAny_bind (wpAny_dictEntries gb ib ?_)
  rw [if_pos (by rw [za, zb]; simpa using len)]
  exact wpAny_bind (wpAny_rule (wpAny_pure q))
end
section
variable {X : Cx} {pins : List (Addr × Obj)} {σ : L2.St} {H : Hp} {s : Shared} {A : Around}
/-- the entries alike -/
def eqTb (ka kb : List (List Key × V)) : Bool := ka.length == kb.length && ka.all fun p => match valV kb p.1 with
  | some y => eqV p.2 y
  | none => false
theorem hit_of {kb : List (List Key × V)} {ys : List (List Key × Addr × Value)} (rb : KT H kb ys) (fb : ∀ p ∈ kb, flatV p.2 = true) : ∀ {ka : List (List Key × V)} {xs : List (List Key × Addr × Value)}, KT H ka xs → (∀ p ∈ ka, flatV p.2 = true) →
    HitT A s ys xs (ka.all fun p => match valV kb p.1 with | some y => eqV p.2 y | none => false)
  | [], _, .nil, _ => .nil
  | p :: ka, _, .cons (b := x) h t, fa => by
    have ih := hit_of rb fb t fun z hz => fa z (List.mem_cons_of_mem _ hz)
    obtain ⟨h1, _, h2⟩ := h
    have rv := KT.val rb p.1
    rw [List.all_cons]
    cases hv : valV kb p.1 with
    | none =>
      rw [hv] at rv
      have e := RelO.none_of rv
      have e : atKey ys x.1 = none := by rw [← h1]; exact Option.map_eq_none_iff.mp e
      exact .out e
    | some y =>
      rw [hv] at rv
      obtain ⟨u, hu, ru⟩ := rv.some_of
      obtain ⟨q, hq, rfl⟩ := Option.map_eq_some_iff.mp hu
      rw [h1] at hq
      have fy : flatV y = true := by
        have : ∀ {l : List (List Key × V)} {k : List Key} {y : V}, (∀ p ∈ l, flatV p.2 = true) → valV l k = some y → flatV y = true := by
          intro l
          induction l with
          | nil => intro k y _ e; cases e
          | cons z l ih2 =>
            intro k y f e
            by_cases c : z.1 = k
            · have : valV (z :: l) k = some z.2 := by simp [valV, c]
              rw [this] at e
              cases e
              exact f z List.mem_cons_self
            · have : valV (z :: l) k = valV l k := by simp [valV, c]
              rw [this] at e
              exact ih2 (fun z hz => f z (List.mem_cons_of_mem _ hz)) e
        exact this fb hv
      exact .both hq (eqAt_V h2 ru (fa p List.mem_cons_self) fy) ih
def rEqT (neg : Bool) : R2 := fun x y H Q => ∃ a b ka kb, x = .ref a ∧ y = .ref b ∧ Rd H a (.dT ka) ∧ Rd H b (.dT kb) ∧ (∀ p ∈ ka, flatV p.2 = true) ∧ (∀ p ∈ kb, flatV p.2 = true) ∧ Q (.bl (neg.xor (eqTb ka kb))) H
theorem same_T {nm : String} {E : Value → Shared → Prop} {a b : Addr} {ka kb : List (List Key × V)} {Q : Bool → Shared → Prop} (hu : A.units < cLine) (I : Inv X pins σ H s) (ea : Rd H a (.dT ka)) (eb : Rd H b (.dT kb))
    (fa : ∀ p ∈ ka, flatV p.2 = true) (fb : ∀ p ∈ kb, flatV p.2 = true) (q : Q (eqTb ka kb) s) : wpAny (model X.prog X.w) A (Builtin.Dict.samePairs nm a b) Q E s := by
  obtain ⟨_, na, xs, ra, da⟩ := dt_rd I.hok ea
  obtain ⟨_, nb, ys, rb, db⟩ := dt_rd I.hok eb
  have la := Paired.length ra
  have lb := Paired.length rb
  by_cases len : ka.length = kb.length
  · have e : eqTb ka kb = ka.all fun p => match valV kb p.1 with | some y => eqV p.2 y | none => false := by
      unfold eqTb
      rw [len]
      simp
    rw [e] at q
    exact same_heap (knd := tupleKind (mixKind X.prog X.w)) hu na nb da db (by omega) (hit_of rb fb ra fa) q
  · have e : eqTb ka kb = false := by
      unfold eqTb
      rw [beq_eq_false_iff_ne.mpr len]
      rfl
    rw [e] at q
    exact same_len na nb da db (by omega) q
theorem op_eqT (hu : X.A.units + 1 < cLine) : OpR X (compareOp .Eq) (rEqT false) := by
  intro pins s σ H x y v u Q I rx ry h
  obtain ⟨a, b, ka, kb, rfl, rfl, ea, eb, fa, fb, q⟩ := h
  cases (show v = Value.ref a from rx)
  cases (show u = Value.ref b from ry)
  obtain ⟨_, na, xs, ra, da⟩ := dt_rd I.hok ea
  obtain ⟨_, nb, ys, rb, db⟩ := dt_rd I.hok eb
  refine wpAny_richCompare_same_room (op := .Eq) da.typeIs db.typeIs PySem.F.slot_dict_eq (wpAny_call_entry PySem.F.slot_dict_eq da.typeIs PySem.F.entry_dict_eq ?_ (PySem.F.args_dict_eq_2 _ _)) (by omega)
  unfold Builtin.«dict.__eq__»
  refine wpAny_bind ?_
  unfold Builtin.Dict.dictSlotArgs
  refine wpAny_bind (wpAny_notOrdered_dict da.typeIs ?_)
  refine wpAny_bind (wpAny_pure (wpAny_pure ?_))
  refine wpAny_bind (wpAny_isInstance (T := "dict") db.typeIs PySem.F.sub_dict_dict ?_)
  rw [if_neg (by simp)]
  refine wpAny_bind (wpAny_pure (wpAny_bind (wpAny_pure (wpAny_bind (same_T (A := X.A.in1) (nm := "dict.__eq__") hu I ea eb fa fb ?_)))))
  refine wpAny_pure ⟨_, rfl, fun z => (by cases z), ?_⟩
  exact ⟨.bl _, H, I, rfl, by simpa using q⟩
theorem op_neT (hu : X.A.units + 1 < cLine) : OpR X (compareOp .NotEq) (rEqT true) := by
  intro pins s σ H x y v u Q I rx ry h
  obtain ⟨a, b, ka, kb, rfl, rfl, ea, eb, fa, fb, q⟩ := h
  cases (show v = Value.ref a from rx)
  cases (show u = Value.ref b from ry)
  obtain ⟨_, na, xs, ra, da⟩ := dt_rd I.hok ea
  obtain ⟨_, nb, ys, rb, db⟩ := dt_rd I.hok eb
  refine wpAny_richCompare_same_room (op := .NotEq) da.typeIs db.typeIs PySem.F.slot_dict_ne (wpAny_call_entry PySem.F.slot_dict_ne da.typeIs PySem.F.entry_dict_ne ?_ (PySem.F.args_dict_ne_2 _ _)) (by omega)
  unfold Builtin.«dict.__ne__»
  refine wpAny_bind ?_
  unfold Builtin.Dict.dictSlotArgs
  refine wpAny_bind (wpAny_notOrdered_dict da.typeIs ?_)
  refine wpAny_bind (wpAny_pure (wpAny_pure ?_))
  refine wpAny_bind (wpAny_isInstance (T := "dict") db.typeIs PySem.F.sub_dict_dict ?_)
  rw [if_neg (by simp)]
  refine wpAny_bind (wpAny_pure (wpAny_bind (wpAny_pure (wpAny_bind (same_T (A := X.A.in1) (nm := "dict.__ne__") hu I ea eb fa fb ?_)))))
  refine wpAny_pure ⟨_, rfl, fun z => (by cases z), ?_⟩
  exact ⟨.bl _, H, I, rfl, by simpa using q⟩
end
end Vq
namespace K89
open PySem PySem.Spec PyProof.Rows L2 Vr BK Vd SlX Vc Vq
theorem inV_st (x : Str) : ∀ ys : List Str, inV (.str x) (ys.map V.str) = ys.contains x
  | [] => rfl
  | y :: ys => by
    have ih := inV_st x ys
    unfold inV at ih ⊢
    rw [List.map_cons, List.any_cons, ih, List.contains_cons]
    congr 1
    show (y == x) = (x == y)
    exact Bool.eq_iff_iff.mpr ⟨fun h => by simpa using (beq_iff_eq.mp h).symm, fun h => by simpa using (beq_iff_eq.mp h).symm⟩
/-! ### tables -/
abbrev sTbl (j : Nat) : Stmt := inClass (top 6) j
structure TbT (K : PySem.W.Frag) (mg : Str → Option Value) (C fI : Addr) : Prop where
  m : mg "Table" = some (.ref C)
  cl : Cls K C
  nC : NoAttr K C "_classes"
  nS : NoAttr K C "_sums"
  mak : Mk K C fI
def TblAt (C : Addr) (H : Hp) (a : Addr) (ns : List Str) (kvs : List (List Key × V)) : Prop := ∃ dx p q, H a = some (.ins C dx [("_classes", .ref p), ("_sums", .ref q)]) ∧ H p = some (.lst (ns.map V.str)) ∧ H q = some (.dT kvs)
theorem TblAt.same {C : Addr} {H H' : Hp} {a : Addr} {ns : List Str} {kvs : List (List Key × V)} (h : TblAt C H a ns kvs) (k : Same H H') : TblAt C H' a ns kvs := by
  obtain ⟨dx, p, q, h1, h2, h3⟩ := h
  exact ⟨dx, p, q, k _ _ h1, k _ _ h2, k _ _ h3⟩
def dropN (kvs : List (List Key × V)) : List (List Key × V) := kvs.filter fun p => !decide (p.2 = V.non)
def spTin (C : Addr) : Sp := fun vs H Q _ => ∃ (a dx t d : Addr) (ns : List Str) (kvs : List (List Key × V)), vs = [.ref a, .ref t, .ref d] ∧ H a = some (.ins C dx []) ∧ H t = some (.tup (ns.map V.str)) ∧ H d = some (.dT kvs) ∧ (kvs.map (·.1)).Nodup ∧ kvs.length ≤ 1000 ∧
  ∀ H', TblAt C H' a ns (dropN kvs) → (∀ c o, H c = some o → c ≠ a → H' c = some o) → Q .non H'
abbrev sTin : Stmt := sTbl 0
abbrev nTin : List Str := ["self", "classes", "sums", "pair"]
theorem scTin : FnScope nTin ["self", "classes", "sums"] (defScope sTin) := ⟨rfl, rfl, rfl, by decide +kernel, rfl, by decide +kernel, by decide +kernel⟩
theorem put_newT {acc : List (List Key × V)} {k : List Key} {v : V} (h : ∀ kv ∈ acc, kv.1 ≠ k) : putK acc k v = acc ++ [(k, v)] := by
  unfold putK
  rw [if_neg]
  rw [List.any_eq_true]
  rintro ⟨kv, hk, z⟩
  exact h kv hk (of_decide_eq_true z)
theorem val_mem {kvs : List (List Key × V)} (nd : (kvs.map (·.1)).Nodup) {i : Nat} {k : List Key} {v : V} (h : kvs[i]? = some (k, v)) : valV kvs k = some v := by
  induction kvs generalizing i with
  | nil => simp at h
  | cons p r ih =>
    rw [List.map_cons, List.nodup_cons] at nd
    cases i with
    | zero =>
      simp only [List.getElem?_cons_zero, Option.some.injEq] at h
      subst h
      simp [valV]
    | succ i =>
      rw [List.getElem?_cons_succ] at h
      have ne : ¬ p.1 = k := fun z => nd.1 (z ▸ List.mem_map.mpr ⟨_, List.mem_of_getElem? h, rfl⟩)
      have : valV (p :: r) k = valV r k := by simp [valV, ne]
      rw [this]
      exact ih nd.2 h
/-! ### texts in order -/
theorem rising_pw : ∀ (l : List Str) (x : Str), risingS x l = true → (x :: l).Pairwise fun a b => a.cps.toList ≤ b.cps.toList
  | [], x, _ => List.pairwise_singleton _ _
  | y :: l, x, h => by
    have h' : (!ltCps y.cps.toList x.cps.toList && risingS y l) = true := h
    rw [Bool.and_eq_true, Bool.not_eq_true', ltCps_eq, decide_eq_false_iff_not] at h'
    have h1 : x.cps.toList ≤ y.cps.toList := List.not_lt.mp h'.1
    have h2 := rising_pw l y h'.2
    refine List.pairwise_cons.mpr ⟨fun z hz => ?_, h2⟩
    rcases List.mem_cons.mp hz with e | hz
    · rw [e]
      exact h1
    · exact List.le_trans h1 ((List.pairwise_cons.mp h2).1 z hz)
theorem sorted_pw (l : List Str) (h : sortedS l = true) : l.Pairwise fun a b => a.cps.toList ≤ b.cps.toList := by
  cases l with
  | nil => exact List.Pairwise.nil
  | cons x l => exact rising_pw l x h
theorem sorted_eq {ys zs : List Str} (h1 : sortedS ys = true) (h2 : sortedS zs = true) (p : ys.Perm zs) : ys = zs := by
  refine List.Perm.eq_of_pairwise (fun a b _ _ hab hba => ?_) (sorted_pw ys h1) (sorted_pw zs h2) p
  have e := List.le_antisymm hab hba
  exact PySem.Str.ext' (Array.toList_inj.mp e)
theorem strs_dat {H : Hp} : ∀ xs : List Str, DatAll H (xs.map V.str) (xs.map PyData.str)
  | [] => .nil
  | x :: xs => .cons (.str x) (strs_dat xs)
def spTeq (C : Addr) : Sp := fun vs H Q _ => ∃ (a c : Addr) (ns ns' : List Str) (kvs kvs' : List (List Key × V)), vs = [.ref a, .ref c] ∧ TblAt C H a ns kvs ∧ TblAt C H c ns' kvs' ∧ SeqAt.shaped (.list (ns.map .str)) = true ∧ SeqAt.shaped (.list (ns'.map .str)) = true ∧ (∀ p ∈ kvs, flatV p.2 = true) ∧ (∀ p ∈ kvs', flatV p.2 = true) ∧ Q (.bl (PyData.eqv (.list (ns.map .str)) (.list (ns'.map .str)) && eqTb kvs kvs')) H
abbrev sTeq : Stmt := sTbl 2
abbrev nTeq : List Str := ["self", "other"]
theorem scTeq : FnScope nTeq ["self", "other"] (defScope sTeq) := ⟨rfl, rfl, rfl, by decide +kernel, rfl, by decide +kernel, by decide +kernel⟩
def spTcl (C : Addr) : Sp := fun vs H Q _ => ∃ (a : Addr) (ns : List Str) (kvs : List (List Key × V)), vs = [.ref a] ∧ TblAt C H a ns kvs ∧ ∀ p H', Same H H' → H p = none → H' p = some (.lst (ns.map V.str)) → Q (.ref p) H'
abbrev sTcl : Stmt := sTbl 5
abbrev nTcl : List Str := ["self"]
theorem scTcl : FnScope nTcl ["self"] (defScope sTcl) := ⟨rfl, rfl, rfl, by decide +kernel, rfl, by decide +kernel, by decide +kernel⟩
def spTln (C : Addr) : Sp := fun vs H Q _ => ∃ (a : Addr) (ns : List Str) (kvs : List (List Key × V)), vs = [.ref a] ∧ TblAt C H a ns kvs ∧ Q (.int kvs.length) H
abbrev sTln : Stmt := sTbl 3
abbrev nTln : List Str := ["self"]
theorem scTln : FnScope nTln ["self"] (defScope sTln) := ⟨rfl, rfl, rfl, by decide +kernel, rfl, by decide +kernel, by decide +kernel⟩
def spTsm (C : Addr) : Sp := fun vs H Q _ => ∃ (a : Addr) (ns : List Str) (kvs : List (List Key × V)) (l r : Str), vs = [.ref a, .str l, .str r] ∧ TblAt C H a ns kvs ∧ l ∈ ns ∧ r ∈ ns ∧ ∀ H', Same H H' → Q ((valV kvs [.inr l, .inr r]).getD .non) H'
abbrev sTsm : Stmt := sTbl 6
abbrev nTsm : List Str := ["self", "left", "right", "name"]
theorem scTsm : FnScope nTsm ["self", "left", "right"] (defScope sTsm) := ⟨rfl, rfl, rfl, by decide +kernel, rfl, by decide +kernel, by decide +kernel⟩
section
variable {P : Program} {w : World} {K : PySem.W.Frag} {mg : Str → Option Value} {base : Heap} {C fI : Addr}
theorem ok_tin {f : Addr} {fd : FuncData} (F : Fun K "__init__" "Table.__init__" sTin f fd) (T : TbT K mg C fI) (gList : mg "list" = none) : FnOk P w K mg base CX0 1 f fd ["self", "classes", "sums"] (spTin C) := by
  refine F.ok scTin (fun vs H Q E h => ?_) (fun cdv A outer s H vs Q E hr h => ?_)
  · obtain ⟨a, dx, t, d, ns, kvs, rfl, _⟩ := h
    rfl
  · obtain ⟨a, dx, t, d, ns, kvs, rfl, ha, ht, hd, nd, l, k⟩ := h
    have hu := hu_of hr
    have hu1 : (A.deeper (envOfC (Str.ofString "Table.__init__") (defScope sTin) s.heap.objs.size f cdv)).units + 1 < cLine := by have := hr.un; omega
    refine ⟨_, (pss_cons (ps_fld (pv 0) (pe_callTy call_list_of (by rfl) gList (by decide +kernel) (pa_cons (pv 1) pa_nil)) rfl)
      (pss_one (ps_fld (pv 0) (pe_lock (pe_dcT (own := [("pair", 3)]) (g := gName 3) (tk := tVar 3) hu1 rfl scTin.nd (pi_keys (pv 2)) (blkOk_by (N := nTin) (sc := defScope sTin) (by decide +kernel)) (fun _ _ _ _ _ => pg_name (i := 3) scTin.nd rfl (Or.inl rfl)) (fun _ _ _ _ _ => pts_one (pt_cmpR op_notN (pe_dget hu (pv 2) (pv 3) (fun _ _ => rfl)) pe_non (nomark _))) (fun _ _ _ _ _ => pv 3) (fun _ _ _ _ _ => pe_dget hu (pv 2) (pv 3) (fun _ _ => rfl)))) rfl))), ?_⟩
    refine ⟨_, rfl, t, _, rfl, Or.inr (SqT.of ht), fun r hr0 => ⟨_, rfl, a, C, dx, [], rfl, Same.new hr0 _ _ ha, T.cl, T.nC, by decide, ?_⟩⟩
    have ra : r ≠ a := fun z => by
      rw [z, ha] at hr0
      cases hr0
    have da : d ≠ a := ne_of hd ha (by intro z; cases z)
    have dr : d ≠ r := ne_of_none hd hr0
    have old1 : ∀ c o, H c = some o → c ≠ a → upd (upd H r (.lst (ns.map V.str))) a (.ins C dx (putF "_classes" (.ref r) [])) c = some o := fun c o e n => by
      rw [upd_ne n]
      exact Same.new hr0 _ _ e
    have ga : upd (upd H r (.lst (ns.map V.str))) a (.ins C dx (putF "_classes" (.ref r) [])) a = some (.ins C dx [("_classes", .ref r)]) := upd_same
    have gr : upd (upd H r (.lst (ns.map V.str))) a (.ins C dx (putF "_classes" (.ref r) [])) r = some (.lst (ns.map V.str)) := by
      rw [upd_ne ra, upd_same]
    generalize upd (upd H r (.lst (ns.map V.str))) a (.ins C dx (putF "_classes" (.ref r) [])) = H1 at *
    have hd1 := old1 _ _ hd da
    refine ⟨d, .dT kvs, hd1, True.intro, fun od => ⟨_, rfl, d, od, rfl, Or.inr ⟨kvs, upd_same, fun D hD => ?_⟩⟩⟩
    have Dd : D ≠ d := fun z => by
      rw [z, upd_same] at hD
      cases hD
    have D1 : H1 D = none := by
      rw [upd_ne Dd] at hD
      exact hD
    refine dcT_walk walk_keysT (fun i H' => (∀ c o, H1 c = some o → c ≠ d → H' c = some o) ∧ H' d = some (.frz od (.dT kvs)) ∧ H' D = some (.dT (dropN (kvs.take i)))) ⟨fun c o e n => ?_, ?_, upd_same⟩ (fun i H' _ h => h.2.1) ?_ ?_
    · rw [upd_ne (ne_of_none e D1), upd_ne n]
      exact e
    · rw [upd_ne Dd.symm, upd_same]
    · rintro i x H2 H3 il ⟨o2, d2, D2⟩ ⟨rfl, key, v, q, hi, rfl, hq⟩
      have gv := val_mem nd hi
      have get : DGet H3 d (.ref q) (some v) := gv ▸ (.inr ⟨kvs, key, q, .inr ⟨od, d2⟩, rfl, hq, rfl⟩)
      have tk : kvs.take (i + 1) = kvs.take i ++ [(key, v)] := by
        rw [List.take_add_one, hi]
        rfl
      refine ⟨rfl, _, rfl, _, rfl, d, v, rfl, get, rfl, _, rfl, ?_⟩
      by_cases z : v = V.non
      · rw [decide_eq_true z]
        refine iteF ?_
        refine ⟨o2, d2, ?_⟩
        rw [D2, tk]
        unfold dropN
        rw [List.filter_append, List.filter_cons_of_neg (by simp [z])]
        simp
      · rw [decide_eq_false z]
        refine iteT ?_
        have fresh : ∀ kv ∈ dropN (kvs.take i), kv.1 ≠ key := fun kv hk e => by
          have hk := (List.mem_filter.mp hk).1
          have nd' : ((kvs.take (i + 1)).map (·.1)).Nodup := by
            rw [List.map_take]
            exact (List.take_sublist _ _).nodup nd
          rw [tk, List.map_append, List.nodup_append] at nd'
          exact nd'.2.2 _ (List.mem_map.mpr ⟨kv, hk, rfl⟩) _ (List.mem_singleton.mpr rfl) e
        refine ⟨_, rfl, _, rfl, _, rfl, d, v, rfl, get, dropN (kvs.take i), key, q, rfl, hq, D2, ?_, fun c o e n => ?_, ?_, ?_⟩
        · have := List.length_filter_le (fun p : List Key × V => !decide (p.2 = V.non)) (kvs.take i)
          rw [List.length_take] at this
          exact small1000 (show (dropN (kvs.take i)).length ≤ 1000 by unfold dropN; omega)
        · rw [upd_ne (ne_of_none e D1)]
          exact o2 c o e n
        · rw [upd_ne Dd.symm]
          exact d2
        · rw [upd_same, put_newT fresh, tk]
          unfold dropN
          rw [List.filter_append, List.filter_cons_of_pos (by simp [z])]
          rfl
    · rintro H2 ⟨o2, d2, D2⟩
      rw [List.take_length] at D2
      refine ⟨d2, _, rfl, a, C, dx, [("_classes", .ref r)], rfl, ?_, T.cl, T.nS, (by show 1 < 1000; decide), ?_⟩
      · rw [upd_ne da.symm]
        exact o2 _ _ ga da.symm
      have rd : r ≠ d := dr.symm
      have Da : D ≠ a := (ne_of_none ga D1).symm
      refine k _ ⟨dx, r, D, upd_same, ?_, ?_⟩ fun c o e n => ?_
      · rw [upd_ne ra, upd_ne rd]
        exact o2 _ _ gr rd
      · rw [upd_ne Da, upd_ne Dd]
        exact D2
      · rw [upd_ne n]
        by_cases z : c = d
        · subst z
          rw [upd_same, ← hd, e]
        · rw [upd_ne z]
          exact o2 _ _ (old1 _ _ e n) z
theorem ok_teq {f : Addr} {fd : FuncData} (F : Fun K "__eq__" "Table.__eq__" sTeq f fd) (T : TbT K mg C fI) (S : SIsi K C) (gIsi : mg "isinstance" = none) : FnOk P w K mg base CX0 1 f fd ["self", "other"] (spTeq C) := by
  refine F.ok scTeq (fun vs H Q E h => ?_) (fun cdv A outer s H vs Q E hr h => ?_)
  · obtain ⟨a, c, ns, ns', kvs, kvs', rfl, _⟩ := h
    rfl
  · obtain ⟨a, c, ns, ns', kvs, kvs', rfl, h1, h2, s1, s2, f1, f2, k⟩ := h
    have hu : (A.deeper (envOfC (Str.ofString "Table.__eq__") (defScope sTeq) s.heap.objs.size f cdv)).units + 64 < cLine := by have := hr.un; omega
    have hu1 : (A.deeper (envOfC (Str.ofString "Table.__eq__") (defScope sTeq) s.heap.objs.size f cdv)).units + 1 < cLine := by omega
    refine ⟨_, (pss_one (ps_ret (pe_and (pe_callB call_isi (by rfl) gIsi (by decide +kernel) (pa_cons (pv 1) (pa_cons (pe_glob rfl T.m (v := .ref C) rfl) pa_nil))) (pe_and (pe_cmpR (op_eqD hu) (pe_fld (pv 0) rfl) (pe_fld (pv 1) rfl) (nomark _)) (pe_one (pe_cmpR (op_eqT hu1) (pe_fld (pv 0) rfl) (pe_fld (pv 1) rfl) (nomark _))))))), ?_⟩
    obtain ⟨dx, p, q, a1, a2, a3⟩ := h1
    obtain ⟨dx', p', q', b1, b2, b3⟩ := h2
    refine ⟨_, rfl, _, _, .ref C, .ref C, true, rfl, ClsV.own _, tyIns T.cl S b1, kitSame C, ?_⟩
    refine ⟨_, rfl, iteT ?_⟩
    refine ⟨_, rfl, a, C, dx, _, _, rfl, a1, T.cl, T.nC, rfl, _, rfl, c, C, dx', _, _, rfl, b1, T.cl, T.nC, rfl, _, _, (DatAt.lst a2 (strs_dat _)).dp, (DatAt.lst b2 (strs_dat _)).dp, s1, s2, ?_⟩
    refine ⟨_, rfl, ?_⟩
    cases z : PyData.eqv (.list (ns.map .str)) (.list (ns'.map .str)) with
    | false =>
      refine iteF ?_
      rw [z] at k
      exact k
    | true =>
      refine iteT ?_
      rw [z] at k
      exact ⟨_, rfl, a, C, dx, _, _, rfl, a1, T.cl, T.nS, rfl, _, rfl, c, C, dx', _, _, rfl, b1, T.cl, T.nS, rfl, q, q', kvs, kvs', rfl, rfl, .inl a3, .inl b3, f1, f2, by simpa using k⟩
theorem ok_tcl {f : Addr} {fd : FuncData} (F : Fun K "classes" "Table.classes" sTcl f fd) (T : TbT K mg C fI) (gList : mg "list" = none) : FnOk P w K mg base CX0 1 f fd ["self"] (spTcl C) := by
  refine F.ok scTcl (fun vs H Q E h => ?_) (fun cdv A outer s H vs Q E hr h => ?_)
  · obtain ⟨a, ns, kvs, rfl, _⟩ := h
    rfl
  · obtain ⟨a, ns, kvs, rfl, h1, k⟩ := h
    refine ⟨_, (pss_one (ps_ret (pe_callTy call_list_of (by rfl) gList (by decide +kernel) (pa_cons (pe_fld (pv 0) rfl) pa_nil)))), ?_⟩
    obtain ⟨dx, p, q, a1, a2, a3⟩ := h1
    exact ⟨_, rfl, a, C, dx, _, _, rfl, a1, T.cl, T.nC, rfl, p, _, rfl, Or.inl (SqL.of a2), fun l hl => k l _ (Same.new hl) hl upd_same⟩
theorem ok_tln {f : Addr} {fd : FuncData} (F : Fun K "__len__" "Table.__len__" sTln f fd) (T : TbT K mg C fI) (gLen : mg "len" = none) : FnOk P w K mg base CX0 1 f fd ["self"] (spTln C) := by
  refine F.ok scTln (fun vs H Q E h => ?_) (fun cdv A outer s H vs Q E hr h => ?_)
  · obtain ⟨a, ns, kvs, rfl, _⟩ := h
    rfl
  · obtain ⟨a, ns, kvs, rfl, h1, k⟩ := h
    refine ⟨_, (pss_one (ps_ret (pe_callB call_len_dT (by rfl) gLen PySem.boot_len (pa_cons (pe_fld (pv 0) rfl) pa_nil)))), ?_⟩
    obtain ⟨dx, p, q, a1, a2, a3⟩ := h1
    exact ⟨_, rfl, a, C, dx, _, _, rfl, a1, T.cl, T.nS, rfl, q, _, rfl, a3, k⟩
theorem ok_tsm {f : Addr} {fd : FuncData} (F : Fun K "sum_of" "Table.sum_of" sTsm f fd) (T : TbT K mg C fI) : FnOk P w K mg base CX0 1 f fd ["self", "left", "right"] (spTsm C) := by
  refine F.ok scTsm (fun vs H Q E h => ?_) (fun cdv A outer s H vs Q E hr h => ?_)
  · obtain ⟨a, ns, kvs, l, r, rfl, _⟩ := h
    rfl
  · obtain ⟨a, ns, kvs, l, r, rfl, h1, hl, hr', k⟩ := h
    have hu1 : (A.deeper (envOfC (Str.ofString "Table.sum_of") (defScope sTsm) s.heap.objs.size f cdv)).units + 1 < cLine := by have := hr.un; omega
    refine ⟨_, (pss_cons (ps_for PassesOwn.never rfl (pi_tup (pe_tup (pa_cons (pv 1) (pa_cons (pv 2) pa_nil)))) (pg_name (i := 3) scTsm.nd rfl (Or.inl rfl)) (pss_one (ps_if (pt_cmpR op_notIn_seq (pv 3) (pe_fld (pv 0) rfl) (by rfl)) (pss_one ps_never) pss_nil)))
      (pss_one (ps_ret (pe_dget1 hu1 (pe_fld (pv 0) rfl) (pe_tup (pa_cons (pv 1) (pa_cons (pv 2) pa_nil))) ⟨by rfl, by rfl, by rfl, by rfl⟩)))), ?_⟩
    obtain ⟨dx, p, q, a1, a2, a3⟩ := h1
    refine ⟨_, rfl, _, rfl, (by show 2 ≤ sizeLine; decide), fun t nt => ?_⟩
    have s1 := Same.new (o := .tup [.str l, .str r]) nt
    have g1 := upd_same (H := H) (a := t) (o := .tup [.str l, .str r])
    generalize upd H t (.tup [.str l, .str r]) = H1 at *
    refine ⟨t, rfl, ⟨_, SqT.of g1⟩, ?_⟩
    refine for_tup (xs := [V.str l, V.str r]) (fun i σ H' => (∃ o3, σ = [some (.ref a), some (.str l), some (.str r), o3]) ∧ H' = H1) ⟨⟨none, rfl⟩, rfl⟩ (fun i σ H' _ h => by rw [h.2]; exact SqT.of g1) ?_ ?_
    · rintro i x σ H' hx ⟨⟨o3, rfl⟩, rfl⟩
      obtain ⟨y, hy, rfl⟩ : ∃ y ∈ ns, x = .str y := by
        have := (List.getElem?_eq_some_iff.mp hx).1
        have c : i = 0 ∨ i = 1 := by
          have l2 : ([V.str l, V.str r] : List V).length = 2 := rfl
          omega
        rcases c with rfl | rfl
        · cases hx
          exact ⟨l, hl, rfl⟩
        · cases hx
          exact ⟨r, hr', rfl⟩
      have fl : (ns.map V.str).all flatV = true := by
        rw [List.all_eq_true]
        intro z hz
        obtain ⟨y, _, rfl⟩ := List.mem_map.mp hz
        rfl
      have inn : inV (.str y) (ns.map V.str) = true := by
        rw [inV_st]
        exact List.contains_iff_mem.mpr hy
      refine ⟨_, rfl, _, rfl, a, C, dx, _, _, rfl, s1 _ _ a1, T.cl, T.nC, rfl, p, _, rfl, Or.inl (SqL.of (s1 _ _ a2)), rfl, fl, _, rfl, ?_⟩
      rw [inn]
      refine iteF ?_
      exact ⟨⟨_, rfl⟩, rfl⟩
    · rintro σ H' ⟨⟨o3, rfl⟩, rfl⟩
      refine ⟨_, rfl, a, C, dx, _, _, rfl, s1 _ _ a1, T.cl, T.nS, rfl, q, rfl, .inr ⟨kvs, .inl (s1 _ _ a3)⟩, _, rfl, _, rfl, (by show 2 ≤ sizeLine; decide), fun t2 n2 => ?_⟩
      have s2 := Same.new (o := .tup [.str l, .str r]) n2
      exact ⟨_, .inr ⟨kvs, [.inr l, .inr r], t2, .inl (s2 _ _ (s1 _ _ a3)), rfl, upd_same, rfl⟩, k _ (s1.trans s2)⟩
end
end K89
namespace Vsd
open PySem PySem.Spec PyProof.Rows L2 Srt
/-! ### sorted of a dict whose keys are pairs of texts -/
def IsPairS (h : Heap) (v : Value) (x y : Str) : Prop := ∃ a o t u n, v = .ref a ∧ h.get? a = some o ∧ o.cls = .type "tuple" ∧ o.data = .seq #[.str x t, .str y u] n
theorem IsPairS.keeps {h h' : Heap} {v : Value} {x y : Str} (p : IsPairS h v x y) (k : ∀ b o, h.get? b = some o → o.cls = .type "tuple" → h'.get? b = some o) : IsPairS h' v x y := by
  obtain ⟨a, o, t, u, n, e, ho, hc, hd⟩ := p
  exact ⟨a, o, t, u, n, e, k _ _ ho hc, hc, hd⟩
section
variable {prog : Program} {w : World} {A : Around} {E : Value → Shared → Prop} {s : Shared}
theorem pair_totS {vs : List Value} (hp : ∀ v ∈ vs, ∃ x y, IsPairS s.heap v x y) : Tot prog w A s (tuples' true) (fun p => p.1 ∈ vs) := by
  intro p q hm hm'
  obtain ⟨x, y, a, o, t, u, n, e, ho, hc, hd⟩ := hp _ hm
  obtain ⟨x', y', a', o', t', u', n', e', ho', hc', hd'⟩ := hp _ hm'
  rw [e, e']
  refine ⟨if x = x' then (if y = y' then false else decide (y.cps.toList < y'.cps.toList)) else decide (x.cps.toList < x'.cps.toList), ?_⟩
  refine PySem.W.kat_lt ho hd ho' hd' ?_
  show PySem.W.KatLex prog w A true (decide (2 < 2)) _ [(.str x t, .str x' t'), (.str y u, .str y' u')] 0 s
  refine PySem.W.kat_cons (SeqAt.EqAt.str_str x t x' t' prog w _ _ ?_)
  refine PySem.W.kat_go (fun e1 => ?_) (fun e1 => ?_)
  · have ex : x = x' := by simpa using e1
    refine PySem.W.kat_yes (PySem.W.kat_cons (SeqAt.EqAt.str_str y u y' u' prog w _ _ ?_))
    refine PySem.W.kat_go (fun e2 => ?_) (fun e2 => ?_)
    · have ey : y = y' := by simpa using e2
      rw [if_pos ex, if_pos ey]
      exact PySem.W.kat_yes (PySem.W.kat_nil ⟨rfl, rfl⟩)
    · have ey : ¬ y = y' := by simpa using e2
      rw [if_pos ex, if_neg ey]
      refine PySem.W.kat_no (PySem.W.kat_one _ _ (PyProof.Rows.lt_str ?_))
      exact ⟨rfl, rfl⟩
  · have ex : ¬ x = x' := by simpa using e1
    rw [if_neg ex]
    exact PySem.W.kat_no (oneLt_str ⟨rfl, rfl⟩)
theorem firsts_ofS {h : Heap} : ∀ {vs : List Value}, (∀ v ∈ vs, ∃ x y, IsPairS h v x y) → ∃ fs : List Value, PySem.W.KatTups h vs fs ∧ fs.length = vs.length ∧ ∀ f ∈ fs, ∃ x t, f = Value.str x t
  | [], _ => ⟨[], PySem.W.KatTups.nil, rfl, fun _ hm => by simp at hm⟩
  | v :: vs, hp => by
    obtain ⟨fs, h1, h2, h3⟩ := firsts_ofS (vs := vs) fun v' hm => hp v' (List.mem_cons_of_mem _ hm)
    obtain ⟨x, y, a, o, t, u, n, e, ho, hc, hd⟩ := hp v (List.mem_cons_self ..)
    subst e
    refine ⟨.str x t :: fs, PySem.W.KatTups.cons ho hc hd rfl h1, by rw [List.length_cons, List.length_cons, h2], fun f hm => ?_⟩
    rcases List.mem_cons.mp hm with rfl | hm
    · exact ⟨x, t, rfl⟩
    · exact h3 f hm
theorem pairs_sortableS {a : Addr} {vs : List Value} (h0 : 0 < vs.length) (hp : ∀ v ∈ vs, ∃ x y, IsPairS s.heap v x y) (ha : ∀ o, s.heap.get? a = some o → o.cls ≠ .type "tuple") : Sortable prog w A s a vs := by
  intro h' keep
  have hp' : ∀ v ∈ vs, ∃ x y, IsPairS h' v x y := fun v hm => by
    obtain ⟨x, y, p⟩ := hp v hm
    exact ⟨x, y, p.keeps fun b o e c => keep b o (fun z => by subst z; exact ha o e c) e⟩
  obtain ⟨fs, h1, h2, h3⟩ := firsts_ofS hp'
  refine ⟨tuples' true, fun Q E hq => ?_, pair_totS hp'⟩
  refine PySem.W.kat_kind (T := .type "str") h1 (by omega) (fun f hm => ?_) (by rfl) ?_
  · obtain ⟨x, t, rfl⟩ := h3 f hm
    exact PySem.W.Looks.now
  · have e : (Value.type "str" != Value.type "tuple") = true := by first | decide +kernel | rfl | decide
    rw [e]
    exact hq
end
theorem pget {α β : Type} {F : α → β → Prop} : ∀ {l₁ : List α} {l₂ : List β} {j : Nat} {x : β}, Paired F l₁ l₂ → l₂[j]? = some x → ∃ y, l₁[j]? = some y ∧ F y x
  | _, _, j, x, .nil, h => by simp at h
  | _, _, 0, x, .cons f _, h => by
    simp only [List.getElem?_cons_zero, Option.some.injEq] at h
    subst h
    exact ⟨_, rfl, f⟩
  | _, _, j + 1, x, .cons _ t, h => by
    simp only [List.getElem?_cons_succ] at h ⊢
    exact pget t h
section
variable {X : Cx}
def rSortedDT : List V → Hp → VK → Prop := fun vs H Q => ∃ (a : Addr) (kvs : List (List Key × V)), vs = [.ref a] ∧ H a = some (.dT kvs) ∧ (∀ p ∈ kvs, ∃ x y : Str, p.1 = [.inr x, .inr y]) ∧
  ∀ (ys : List V) (p : Addr), (∀ y ∈ ys, ∃ (t : Addr) (kv : List Key × V), kv ∈ kvs ∧ y = .ref t ∧ H t = some (.tup (kv.1.map kV))) → ys.length = kvs.length → H p = none → Q (.ref p) (upd H p (.lst ys))
theorem cr_sortedDT (hcalm : X.calm = true) : CallR X (.builtin "sorted") rSortedDT := by
  intro pins s σ H xs us Q I r h
  obtain ⟨a, kvs, rfl, ha, hk2, q⟩ := h
  obtain ⟨u, eu, rx⟩ := vals1 r
  subst eu
  obtain rfl : u = Value.ref a := rx
  obtain ⟨z, hd, xs', rel, o, es, ep, ho, hx, hdat, hes, his, hn⟩ := dt_of I.hok ha
  have l1 : kvs.length = xs'.length := Paired.length rel
  have l2 : es.size = xs'.length := size_of_entries hes
  have h16 : es.size ≤ sizeLine := by omega
  refine Calls.call_function_entry PyProof.Rows.kind_sorted PyProof.Rows.plain_sorted PyProof.Rows.entry_sorted (PyProof.Rows.args_sorted1 _) ?_
  unfold Builtin.«sorted»
  refine wpAny_bind (m := checkCount "sorted" 1 1 _) (wpAny_pure ?_)
  refine wpAny_bind (PySem.W.kdu_collect (A := X.A.in1) (KdlSrc.rawDict (es := es) (ep := ep) hd) (I.ok.hd hcalm) ⟨o, ho, hx, hdat⟩ h16 fun h' tk acc hk hacc => ?_)
  have hal : acc.toList.length = kvs.length := by rw [Array.length_toList, hacc.1]; omega
  have pr : ∀ v ∈ acc.toList, ∃ (t : Addr) (kv : List Key × V), kv ∈ kvs ∧ v = .ref t ∧ H t = some (.tup (kv.1.map kV)) := fun v hv => by
    obtain ⟨j, hj⟩ := List.mem_iff_getElem?.mp hv
    obtain ⟨hi, ev⟩ := hacc.2 j v (by rw [← Array.getElem?_toList]; exact hj)
    have he : es[j]? = some es[j] := Array.getElem?_eq_getElem hi
    rw [entry_at hes j] at he
    cases hxj : xs'[j]? with
    | none =>
      rw [hxj] at he
      exact nomatch (show (none : Option DictEntry) = some es[j] from he)
    | some x =>
      rw [hxj] at he
      have een : entryOfKey (tupleKind (mixKind X.prog X.w)) x = es[j] := Option.some.inj he
      obtain ⟨e0, he0, r1, r2, r3⟩ := pget rel hxj
      refine ⟨x.2.1, e0, List.mem_of_getElem? he0, ?_, r2⟩
      rw [ev, ← een]
      rfl
  have I1 : Inv X pins σ H { s with heap := h', toks := tk } := I.kept hk
  have ps : ∀ v ∈ acc.toList, ∃ x y, IsPairS h' v x y := fun v hv => by
    obtain ⟨t, kv, hkv, rfl, ht⟩ := pr v hv
    obtain ⟨x, y, e⟩ := hk2 kv hkv
    rw [e] at ht
    obtain ⟨_, its2, r2, o2, ho2, hc2, n2, hd2⟩ := I1.hok _ _ ht
    obtain ⟨u1, u2, rfl, ri, rj⟩ := vals2 r2
    obtain ⟨t1, rfl⟩ := ri
    obtain ⟨t2, rfl⟩ := rj
    exact ⟨x, y, t, o2, t1, t2, n2, rfl, ho2, hc2, hd2⟩
  refine wpAny_bind (wpAny_newList ?_ (by rw [hal]; omega))
  have hoL : (h'.push (seqObj "list" acc.toList.toArray 0)).get? h'.objs.size = some (seqObj "list" acc.toList.toArray 0) := Heap.get?_push_size _ rfl
  show wpAny _ _ _ _ _ { s with heap := h'.push (seqObj "list" acc.toList.toArray 0), toks := tk }
  refine wpAny_bind (wpAny_holding (wpAny_call_entry PyProof.Rows.slot_list_sort ⟨_, hoL, rfl⟩ PyProof.Rows.entry_list_sort
    (Srt.list_sort_any (s := { s with heap := h'.push (seqObj "list" acc.toList.toArray 0), toks := tk }) hoL (by rw [hal]; omega) (fun h2 => pairs_sortableS (by omega) (fun v hv => ?_) fun o e => ?_) fun out hp => ⟨_, rfl, ?_⟩)
    (PyProof.Rows.args_list_sort _)))
  · obtain ⟨x, y, p⟩ := ps v hv
    exact ⟨x, y, p.keeps fun b o e _ => Heap.get?_push_of_some _ e⟩
  · have e' : some o = some (seqObj "list" acc.toList.toArray 0) := e.symm.trans hoL
    cases e'
    intro c
    exact absurd (Value.type.inj c) (by decide)
  have h3 : ∀ u ∈ out, ∃ a, u = Value.ref a := fun u hu => by
    obtain ⟨t, _, _, e, _⟩ := pr u (hp.mem_iff.mp hu)
    exact ⟨t, e⟩
  obtain ⟨e', he'⟩ := PyProof.Rows.sortedHeap_at (vs := acc.toList) (out := out.toArray) hoL
  have hlen : (out.map backV).length ≤ sizeLine := by
    rw [List.length_map, hp.length_eq, hal]
    omega
  refine wpAny_pure ⟨_, rfl, .ref h'.objs.size, upd H h'.objs.size (.lst (out.map backV)), I1.laid (t' := tk) (fun b u e => ?_) (Nat.le_refl _)
    (show ObjOk X.prog X.w _ _ _ (.lst (out.map backV)) from ⟨hlen, out, e', vals_back h3, he'⟩), rfl, q _ _ (fun y hy => ?_) (by rw [List.length_map, hp.length_eq, hal]) (I1.hok.fresh (Nat.le_refl _))⟩
  · have hb : b < h'.objs.size := Heap.lt_size e
    rw [PyProof.Rows.sortedHeap_old (Nat.ne_of_lt hb) (by rw [size_push']; exact Nat.lt_succ_of_lt hb)]
    exact Heap.get?_push_of_some _ e
  · obtain ⟨u, hu, rfl⟩ := List.mem_map.mp hy
    obtain ⟨t, kv, hkv, rfl, ht⟩ := pr u (hp.mem_iff.mp hu)
    exact ⟨t, kv, hkv, rfl, ht⟩
end
end Vsd
namespace K89
open PySem PySem.Spec PyProof.Rows L2 Vr BK Vd Vsd
/-! ### what a table's sums are -/
theorem tup_but {H H' : Hp} {b : Addr} (hb : Bag H b) (k : But b H H') : ∀ p xs, H p = some (.tup xs) → H' p = some (.tup xs) := fun q xs e => k _ _ e (fun z => by
  obtain ⟨_, _, _, q', _⟩ := hb
  rw [z, q'] at e
  cases e)
structure SmI (ns : List Str) (kvs : List (List Key × V)) : Prop where
  nd : (kvs.map (·.1)).Nodup
  ke : ∀ p ∈ kvs, ∃ l ∈ ns, ∃ r ∈ ns, p.1 = [.inr l, .inr r]
  va : ∀ p ∈ kvs, ∃ o : Option Str, p.2 = optV o ∧ ∀ x, o = some x → x ∈ ns
theorem SmI.nil {ns : List Str} : SmI ns [] := ⟨List.nodup_nil, (fun p h => by cases h), (fun p h => by cases h)⟩
theorem mem_putK {kvs : List (List Key × V)} {k : List Key} {v : V} {p : List Key × V} (h : p ∈ putK kvs k v) : p = (k, v) ∨ p ∈ kvs := by
  unfold putK at h
  split at h
  · obtain ⟨q, hq, e⟩ := List.mem_map.mp h
    split at e
    · rename_i z
      rw [z] at e
      exact .inl e.symm
    · rw [← e]
      exact .inr hq
  · rcases List.mem_append.mp h with h | h
    · exact .inr h
    · exact .inl (List.mem_singleton.mp h)
theorem keys_old {kvs : List (List Key × V)} {k : List Key} {v : V} (h : (kvs.any fun kv => decide (kv.1 = k)) = true) : (putK kvs k v).map (·.1) = kvs.map (·.1) := by
  unfold putK
  rw [if_pos h, List.map_map]
  refine List.map_congr_left fun p hp => ?_
  show (if p.1 = k then (p.1, v) else p).1 = p.1
  split <;> rfl
theorem nd_put {kvs : List (List Key × V)} {k : List Key} {v : V} (nd : (kvs.map (·.1)).Nodup) : ((putK kvs k v).map (·.1)).Nodup := by
  by_cases h : (kvs.any fun kv => decide (kv.1 = k)) = true
  · rw [keys_old h]
    exact nd
  · unfold putK
    rw [if_neg h, List.map_append, List.nodup_append]
    refine ⟨nd, by simp, fun a ha b hb e => h ?_⟩
    obtain ⟨p, hp, rfl⟩ := List.mem_map.mp ha
    rw [List.any_eq_true]
    refine ⟨p, hp, decide_eq_true ?_⟩
    rw [e]
    simpa using hb
theorem len_put_old {kvs : List (List Key × V)} {k : List Key} {v : V} (h : (valV kvs k).isSome = true) : (putK kvs k v).length = kvs.length := by
  rw [← valV_any] at h
  have := congrArg List.length (keys_old (v := v) h)
  rwa [List.length_map, List.length_map] at this
theorem val_isSome {kvs : List (List Key × V)} {p : List Key × V} (h : p ∈ kvs) : (valV kvs p.1).isSome = true := by
  rw [← valV_any, List.any_eq_true]
  exact ⟨p, h, decide_eq_true rfl⟩
theorem SmI.put {ns : List Str} {kvs : List (List Key × V)} (s : SmI ns kvs) {l r : Str} (hl : l ∈ ns) (hr : r ∈ ns) (o : Option Str) (ho : ∀ x, o = some x → x ∈ ns) : SmI ns (putK kvs [.inr l, .inr r] (optV o)) where
  nd := nd_put s.nd
  ke := fun p hp => by
    rcases mem_putK hp with rfl | hp
    · exact ⟨l, hl, r, hr, rfl⟩
    · exact s.ke p hp
  va := fun p hp => by
    rcases mem_putK hp with rfl | hp
    · exact ⟨o, rfl, ho⟩
    · exact s.va p hp
theorem SmI.val {ns : List Str} {kvs : List (List Key × V)} (s : SmI ns kvs) {k : List Key} (h : (valV kvs k).isSome = true) : ∃ o : Option Str, valV kvs k = some (optV o) ∧ ∀ x, o = some x → x ∈ ns := by
  cases e : valV kvs k with
  | none =>
    rw [e] at h
    cases h
  | some v =>
    unfold valV at e
    cases f : kvs.find? (fun kv => decide (kv.1 = k)) with
    | none =>
      rw [f] at e
      cases e
    | some p =>
      rw [f] at e
      cases e
      obtain ⟨o, z, ho⟩ := s.va p (List.mem_of_find?_eq_some f)
      exact ⟨o, congrArg some z, ho⟩
/-- all pairs up to here are in -/
def Full (ns : List Str) (kvs : List (List Key × V)) (n m : Nat) : Prop := ∀ (i j : Nat) (l r : Str), ns[i]? = some l → ns[j]? = some r → (i < n ∨ (i = n ∧ j < m)) → (valV kvs [.inr l, .inr r]).isSome = true
theorem Full.nil {ns : List Str} : Full ns [] 0 0 := fun i j l r _ _ h => by omega
theorem Full.put {ns : List Str} {kvs : List (List Key × V)} {n m : Nat} (f : Full ns kvs n m) (k : List Key) (v : V) : Full ns (putK kvs k v) n m := fun i j l r hl hr h => by
  rw [valV_put]
  split
  · rfl
  · exact f i j l r hl hr h
theorem Full.step {ns : List Str} {kvs : List (List Key × V)} {n m : Nat} {l r : Str} {v : V} (f : Full ns kvs n m) (hl : ns[n]? = some l) (hr : ns[m]? = some r) : Full ns (putK kvs [.inr l, .inr r] v) n (m + 1) := fun i j l' r' hl' hr' h => by
  rw [valV_put]
  split
  · rfl
  · rename_i ne
    refine f i j l' r' hl' hr' ?_
    rcases h with h | ⟨rfl, h⟩
    · exact .inl h
    · refine .inr ⟨rfl, ?_⟩
      rcases Nat.lt_or_eq_of_le (Nat.le_of_lt_succ h) with h | rfl
      · exact h
      · exfalso
        rw [hl] at hl'
        rw [hr] at hr'
        cases hl'
        cases hr'
        exact ne rfl
theorem Full.row {ns : List Str} {kvs : List (List Key × V)} {n : Nat} (f : Full ns kvs n ns.length) : Full ns kvs (n + 1) 0 := fun i j l r hl hr h => by
  refine f i j l r hl hr ?_
  have := (List.getElem?_eq_some_iff.mp hr).1
  omega
structure SumsOk (ns : List Str) (kvs : List (List Key × V)) : Prop where
  i : SmI ns kvs
  f : ∀ l ∈ ns, ∀ r ∈ ns, (valV kvs [.inr l, .inr r]).isSome = true
  l : kvs.length ≤ 102
theorem Full.all {ns : List Str} {kvs : List (List Key × V)} (f : Full ns kvs ns.length 0) : ∀ l ∈ ns, ∀ r ∈ ns, (valV kvs [.inr l, .inr r]).isSome = true := fun l hl r hr => by
  obtain ⟨i, hi⟩ := List.mem_iff_getElem?.mp hl
  obtain ⟨j, hj⟩ := List.mem_iff_getElem?.mp hr
  exact f i j l r hi hj (.inl (List.getElem?_eq_some_iff.mp hi).1)
theorem pick6 {n : Int} {i : Int} (l : List Int) (h : ∀ x ∈ l, 0 ≤ x ∧ x < n) (i0 : 0 ≤ i) (i1 : i < (l.length : Int)) : ∃ v, atI (l.map V.int) i = some (.int v) ∧ 0 ≤ v ∧ v < n := by
  obtain ⟨j, rfl⟩ := Int.eq_ofNat_of_zero_le i0
  have jl : j < l.length := by omega
  refine ⟨l[j], atI_nat (by rw [List.getElem?_map, List.getElem?_eq_getElem jl]; rfl), h _ (List.getElem_mem jl)⟩
theorem names_none {ns : List Str} {u : Nat} (h : u < ns.length + 1) : ∃ o : Option Str, atI (ns.map V.str ++ [V.non]) (u : Int) = some (optV o) ∧ ∀ x, o = some x → x ∈ ns := by
  by_cases c : u < ns.length
  · refine ⟨some ns[u], atI_nat ?_, fun x hx => by cases hx; exact List.getElem_mem c⟩
    rw [List.getElem?_append_left (by rw [List.length_map]; exact c), List.getElem?_map, List.getElem?_eq_getElem c]
    rfl
  · have : u = ns.length := by omega
    subst this
    refine ⟨none, atI_nat ?_, fun x hx => by cases hx⟩
    rw [List.getElem?_append_right (by rw [List.length_map]; exact Nat.le_refl _), List.length_map, Nat.sub_self]
    rfl
def spSms : Sp := fun vs H Q _ => ∃ (b p : Addr) (ns : List Str), vs = [.ref b, .ref p] ∧ Bag H b ∧ H p = some (.lst (ns.map V.str)) ∧ p ≠ b ∧ 1 ≤ ns.length ∧ ns.length ≤ 10 ∧
  ∀ (d : Addr) (kvs : List (List Key × V)) (H' : Hp), H d = none → H' d = some (.dT kvs) → SumsOk ns kvs → Bag H' b → But b H H' → Q (.ref d) H'
abbrev sSms : Stmt := top 27
abbrev nSms : List Str := ["_law_bag_here", "_law_names_here", "_law_way", "_law_size", "_law_found", "_law_one", "_law_other", "_law_rule", "_law_turn", "_law_pair"]
theorem scSms : FnScope nSms ["_law_bag_here", "_law_names_here"] (defScope sSms) := ⟨rfl, rfl, rfl, by decide +kernel, rfl, by decide +kernel, by decide +kernel⟩
section
variable {P : Program} {w : World} {K : PySem.W.Frag} {mg : Str → Option Value} {base : Heap} {fT : Addr} {fdT : FuncData}
theorem ok_sms {f : Addr} {fd : FuncData} (F : Fun K "_law_sums" "_law_sums" sSms f fd) (GT : FnOk P w K mg base CX0 1 fT fdT ["_law_bag_here", "_law_many"] spTake) (bT : Binds K fdT ["_law_bag_here", "_law_many"] []) (mT : mg "_law_take" = some (.ref fT)) (kT : PySem.W.keepIn K (.ref fT) = true)
    (gLen : mg "len" = none) (gRange : mg "range" = none) (gMax : mg "max" = none) (gMin : mg "min" = none) (gSorted : mg "sorted" = none) : FnOk P w K mg base CX0 2 f fd ["_law_bag_here", "_law_names_here"] spSms := by
  refine F.ok scSms (fun vs H Q E h => ?_) (fun cdv A outer s H vs Q E hr h => ?_)
  · obtain ⟨b, p, ns, rfl, _⟩ := h
    rfl
  · obtain ⟨b, p, ns, rfl, hb, hp, pb, n1, n10, k⟩ := h
    have r1 : Room 1 _ := hr
    have hu1 : (A.deeper (envOfC (Str.ofString "_law_sums") (defScope sSms) s.heap.objs.size f cdv)).units + 1 < cLine := by have := hr.un; omega
    refine ⟨_, (pss_cons (ps_par3 (i := 2) (j := 3) (l := 4) (by rfl) scSms.nd rfl rfl rfl (by decide) (by decide) (by decide) rfl rfl rfl (pa_cons (pe_call GT r1 (by rfl) mT kT bT .nil pass0 (pa_cons (pv 0) (pa_cons pe_int pa_nil))) (pa_cons (pe_callB call_len_seq (by rfl) gLen PySem.boot_len (pa_cons (pv 1) pa_nil)) (pa_cons pe_dnewT pa_nil))) (by rfl))
      (pss_cons (ps_for PassesOwn.never rfl (pi_range1 (by rfl) gRange (pa_cons (pv 3) pa_nil)) (pg_name (i := 5) scSms.nd rfl (Or.inl rfl)) (pss_one (ps_for PassesOwn.never rfl (pi_range1 (by rfl) gRange (pa_cons (pv 3) pa_nil)) (pg_name (i := 6) scSms.nd rfl (Or.inl rfl)) (pss_cons (ps_set (i := 7) scSms.nd rfl (Or.inl rfl) (pe_ix ix_list (pe_lst (pa_cons (pe_call GT r1 (by rfl) mT kT bT .nil pass0 (pa_cons (pv 0) (pa_cons (pv 3) pa_nil))) (pa_cons (pe_op op_mod (pe_op op_add (pv 5) (pv 6)) (pv 3)) (pa_cons (pe_callB (call_max2 rfl) (by rfl) gMax (by decide +kernel) (pa_cons (pv 5) (pa_cons (pv 6) pa_nil))) (pa_cons (pv 5) (pa_cons (pv 6) (pa_cons pe_int pa_nil))))))) (pe_callB (call_min2 rfl) (by rfl) gMin (by decide +kernel) (pa_cons (pv 2) (pa_cons pe_int pa_nil))) (fun _ _ => rfl)))
      (C8.pss_cut (ps_if (pt_cmpR op_eq (pv 2) pe_int (nomark _)) (pss_one (ps_set (i := 7) scSms.nd rfl (Or.inl rfl) (pe_op op_mod (pe_op op_add (pe_op op_add (pe_op op_mul (pv 5) (pv 6)) (pv 5)) (pv 6)) (pv 3)))) pss_nil)
      (pss_one (ps_asg (pe_ix ix_list (pv 1) (pv 7) (fun _ _ => rfl)) (pg_sub (pv 4) (pe_tup (pa_cons (pe_ix ix_list (pv 1) (pv 5) (fun _ _ => rfl)) (pa_cons (pe_ix ix_list (pv 1) (pv 6) (fun _ _ => rfl)) pa_nil))) (set_dict hu1)))))))))
      (pss_cons (ps_for PassesOwn.never rfl (pi_range1 (by rfl) gRange (pa_cons (pe_call GT r1 (by rfl) mT kT bT .nil pass0 (pa_cons (pv 0) (pa_cons pe_int pa_nil))) pa_nil)) (pg_name (i := 8) scSms.nd rfl (Or.inl rfl)) (pss_cons (ps_set (i := 9) scSms.nd rfl (Or.inl rfl) (pe_tup (pa_cons (pe_ix ix_list (pv 1) (pe_call GT r1 (by rfl) mT kT bT .nil pass0 (pa_cons (pv 0) (pa_cons (pv 3) pa_nil))) (fun _ _ => rfl)) (pa_cons (pe_ix ix_list (pv 1) (pe_call GT r1 (by rfl) mT kT bT .nil pass0 (pa_cons (pv 0) (pa_cons (pv 3) pa_nil))) (fun _ _ => rfl)) pa_nil))))
      (pss_one (ps_asg (pe_ix ix_list (pe_op op_cat (pv 1) (pe_lst (pa_cons pe_non pa_nil))) (pe_call GT r1 (by rfl) mT kT bT .nil pass0 (pa_cons (pv 0) (pa_cons (pe_op op_add (pv 3) pe_int) pa_nil))) (fun _ _ => rfl)) (pg_sub (pv 4) (pv 9) (set_dict hu1))))))
      (C8.pss_cut (ps_if (pt_cmpR op_eq (pe_call GT r1 (by rfl) mT kT bT .nil pass0 (pa_cons (pv 0) (pa_cons pe_int pa_nil))) pe_int (nomark _)) (pss_one (ps_for PassesOwn.never rfl (pi_list (pe_callB (cr_sortedDT rfl) (by rfl) gSorted (by decide +kernel) (pa_cons (pv 4) pa_nil))) (pg_name (i := 9) scSms.nd rfl (Or.inl rfl)) (pss_one (ps_asg (pe_ifExp (pt_cmpR op_eq (pe_call GT r1 (by rfl) mT kT bT .nil pass0 (pa_cons (pv 0) (pa_cons pe_int pa_nil))) pe_int (nomark _)) pe_non (pe_dget hu1 (pv 4) (pv 9) (fun _ _ => rfl))) (pg_sub (pv 4) (pv 9) (set_dict hu1)))))) pss_nil)
      (pss_one (ps_ret (pv 4))))))), ?_⟩
    have sz : (1 : Int) ≤ (ns.length : Int) := by omega
    have sz' : (ns.length : Int) ≤ 10 := by omega
    have hb0 := hb
    refine ⟨_, rfl, b, 7, rfl, by decide, by decide, hb, fun way H1 w0 w7 hb1 k1 => ?_⟩
    have hp1 := k1 _ _ hp pb
    refine ⟨_, rfl, p, _, rfl, Or.inl (SqL.of hp1), fun D nD => ?_⟩
    have s2 := Same.new (o := .dT []) nD
    have gD := upd_same (H := H1) (a := D) (o := .dT [])
    have nDH : H D = none := k1.free hb1 nD
    generalize upd H1 D (.dT []) = H2 at *
    have Db : D ≠ b := hb1.ne nD
    have hb2 := hb1.same s2
    have hp2 := s2 _ _ hp1
    have k2 := k1.trans (Same.but b s2)
    have pD : p ≠ D := ne_of_none hp1 nD
    refine ⟨_, _, _, rfl, ?_⟩
    rw [List.length_map]
    clear hb1 k1 hp1 s2 nD
    -- all pairs
    refine ⟨_, rfl, _, rfl, by omega, by omega, ?_⟩
    refine for_range (lo := 0) (n := ns.length) (fun i σ H' => ∃ kvs, (∃ o5 o6 o7, σ = [some (.ref b), some (.ref p), some (.int way), some (.int (ns.length : Int)), some (.ref D), o5, o6, o7, none, none]) ∧ SmI ns kvs ∧ Full ns kvs i 0 ∧ kvs.length ≤ i * ns.length ∧ H' D = some (.dT kvs) ∧ H' p = some (.lst (ns.map V.str)) ∧ Bag H' b ∧ But b H H')
      ⟨[], ⟨none, none, none, rfl⟩, SmI.nil, Full.nil, by simp, gD, hp2, hb2, k2⟩ ?_ ?_
    · rintro i σ H3 hi ⟨kvs, ⟨o5, o6, o7, rfl⟩, sm, fu, lk, hD, hp3, hb3, k3⟩
      refine ⟨_, rfl, _, rfl, by omega, by omega, ?_⟩
      refine for_range (lo := 0) (n := ns.length) (fun j σ H' => ∃ kvs, (∃ o6 o7, σ = [some (.ref b), some (.ref p), some (.int way), some (.int (ns.length : Int)), some (.ref D), some (.int (0 + (i : Int))), o6, o7, none, none]) ∧ SmI ns kvs ∧ Full ns kvs i j ∧ kvs.length ≤ i * ns.length + j ∧ H' D = some (.dT kvs) ∧ H' p = some (.lst (ns.map V.str)) ∧ Bag H' b ∧ But b H H')
        ⟨kvs, ⟨_, _, rfl⟩, sm, fu, lk, hD, hp3, hb3, k3⟩ ?_ ?_
      · rintro j σ H4 hj ⟨kvs, ⟨o6, o7, rfl⟩, sm, fu, lk, hD, hp4, hb4, k4⟩
        have il : (i : Int) < ns.length := by omega
        have jl : (j : Int) < ns.length := by omega
        -- a rule
        refine ⟨_, rfl, _, rfl, b, (ns.length : Int), rfl, by omega, by omega, hb4, fun dr H5 d0 d1 hb5 k5 => ?_⟩
        refine ⟨_, rfl, _, rfl, _, _, rfl, rfl, _, rfl, _, _, rfl, rfl, by omega, _, rfl, _, rfl, _, _, rfl, _, rfl, _, rfl, (by show 6 ≤ sizeLine; decide), fun rl nrl => ?_⟩
        have s6 := Same.new (o := .lst [V.int dr, .int ((0 + (i : Int) + (0 + (j : Int))) % (ns.length : Int)), .int (if 0 + (j : Int) > 0 + (i : Int) then 0 + (j : Int) else 0 + (i : Int)), .int (0 + (i : Int)), .int (0 + (j : Int)), .int 0]) nrl
        have g6 := upd_same (H := H5) (a := rl) (o := .lst [V.int dr, .int ((0 + (i : Int) + (0 + (j : Int))) % (ns.length : Int)), .int (if 0 + (j : Int) > 0 + (i : Int) then 0 + (j : Int) else 0 + (i : Int)), .int (0 + (i : Int)), .int (0 + (j : Int)), .int 0])
        have md : ∀ x : Int, 0 ≤ x % (ns.length : Int) ∧ x % (ns.length : Int) < ns.length := fun x => ⟨Int.emod_nonneg _ (by omega), Int.emod_lt_of_pos _ (by omega)⟩
        obtain ⟨v, hv, v0, v1⟩ := pick6 (n := (ns.length : Int)) (i := if 5 < way then 5 else way) [dr, (0 + (i : Int) + (0 + (j : Int))) % (ns.length : Int), (if 0 + (j : Int) > 0 + (i : Int) then 0 + (j : Int) else 0 + (i : Int)), 0 + (i : Int), 0 + (j : Int), 0] (by
          intro x hx
          simp only [List.mem_cons, List.not_mem_nil, or_false] at hx
          rcases hx with rfl | rfl | rfl | rfl | rfl | rfl
          · exact ⟨d0, d1⟩
          · exact md _
          · split <;> omega
          · omega
          · omega
          · omega) (by split <;> omega) (by show _ < (6 : Int); split <;> omega)
        generalize upd H5 rl _ = H6 at *
        refine ⟨_, rfl, _, _, rfl, rl, _, _, _, rfl, rfl, SqL.of g6, hv, ?_⟩
        have hD6 : H6 D = some (.dT kvs) := s6 _ _ (k5 _ _ hD Db)
        have hp6 := s6 _ _ (k5 _ _ hp4 pb)
        have hb6 := hb5.same s6
        have k6 := (k4.trans k5).trans (Same.but b s6)
        clear hD hp4 hb4 k4 hb5 k5 s6 g6 nrl hv
        refine ⟨fun σ H' => ∃ v : Int, 0 ≤ v ∧ v < ns.length ∧ σ = [some (.ref b), some (.ref p), some (.int way), some (.int (ns.length : Int)), some (.ref D), some (.int (0 + (i : Int))), some (.int (0 + (j : Int))), some (.int v), none, none] ∧ H' = H6, ?_, ?_⟩
        · refine ⟨_, rfl, rfl, _, rfl, ?_⟩
          refine ite2 (fun c => ?_) (fun c => ?_)
          · refine ⟨_, rfl, _, rfl, _, _, rfl, rfl, Or.inl ⟨by omega, by omega⟩, _, rfl, _, _, rfl, rfl, _, rfl, _, _, rfl, rfl, _, rfl, _, _, rfl, rfl, by omega, ?_⟩
            exact ⟨_, (md _).1, (md _).2, rfl, rfl⟩
          · exact ⟨v, v0, v1, rfl, rfl⟩
        rintro σ H7 ⟨v, v0, v1, rfl, rfl⟩
        obtain ⟨u, rfl⟩ := Int.eq_ofNat_of_zero_le v0
        obtain ⟨x, hx⟩ : ∃ x, ns[u]? = some x := ⟨_, List.getElem?_eq_getElem (by omega)⟩
        obtain ⟨l, hl⟩ : ∃ x, ns[i]? = some x := ⟨_, List.getElem?_eq_getElem (by omega)⟩
        obtain ⟨r, hr'⟩ : ∃ x, ns[j]? = some x := ⟨_, List.getElem?_eq_getElem (by omega)⟩
        have at_ : ∀ {k : Nat} {y : Str}, ns[k]? = some y → atI (ns.map V.str) (k : Int) = some (V.str y) := fun h => atI_nat (by rw [List.getElem?_map, h]; rfl)
        refine ⟨_, rfl, _, rfl, p, _, _, _, rfl, rfl, SqL.of hp6, at_ hx, ?_⟩
        refine ⟨_, rfl, _, rfl, _, rfl, p, _, _, _, rfl, rfl, SqL.of hp6, (by rw [Int.zero_add]; exact at_ hl), _, rfl, _, rfl, p, _, _, _, rfl, rfl, SqL.of hp6, (by rw [Int.zero_add]; exact at_ hr'), (by show 2 ≤ sizeLine; decide), fun t nt => ?_⟩
        have s8 := Same.new (o := .tup [V.str l, .str r]) nt
        have g8 := upd_same (H := H7) (a := t) (o := .tup [V.str l, .str r])
        generalize upd H7 t (.tup [V.str l, .str r]) = H8 at *
        have hD8 := s8 _ _ hD6
        have lb : kvs.length ≤ 110 := by
          have : i * ns.length ≤ 10 * 10 := Nat.mul_le_mul (by omega) (by omega)
          omega
        refine ⟨D, _, rfl, DPut.t (k := [.inr l, .inr r]) hD8 g8 (small1000 (by omega)), putK kvs [.inr l, .inr r] (.str x), ⟨_, _, rfl⟩, sm.put (List.mem_of_getElem? hl) (List.mem_of_getElem? hr') (some x) (fun y hy => by cases hy; exact List.mem_of_getElem? hx), fu.step hl hr', ?_, upd_same, ?_, (hb6.same s8).new Db, But.newer nDH (k6.trans (Same.but b s8))⟩
        · have := length_putK kvs [.inr l, .inr r] (V.str x)
          omega
        · rw [upd_ne pD]
          exact s8 _ _ hp6
      · rintro σ H4 ⟨kvs, ⟨o6, o7, rfl⟩, sm, fu, lk, hD, hp4, hb4, k4⟩
        refine ⟨kvs, ⟨_, _, _, rfl⟩, sm, fu.row, ?_, hD, hp4, hb4, k4⟩
        rw [Nat.succ_mul]
        exact lk
    rintro σ H3 ⟨kvs, ⟨o5, o6, o7, rfl⟩, sm, fu, lk, hD, hp3, hb3, k3⟩
    have lk : kvs.length ≤ 100 := by
      have : ns.length * ns.length ≤ 10 * 10 := Nat.mul_le_mul (by omega) (by omega)
      omega
    clear hp2 hb2 k2 gD
    -- some more
    refine ⟨_, rfl, b, 3, rfl, by decide, by decide, hb3, fun many H4 m0 m3 hb4 k4 => ?_⟩
    have hD4 : H4 D = some (.dT kvs) := k4 _ _ hD Db
    have hp4 := k4 _ _ hp3 pb
    have k4 := k3.trans k4
    obtain ⟨mm, rfl⟩ := Int.eq_ofNat_of_zero_le m0
    refine ⟨_, rfl, by omega, by omega, ?_⟩
    refine for_range (lo := 0) (n := mm) (fun i σ H' => ∃ kvs, (∃ o8 o9, σ = [some (.ref b), some (.ref p), some (.int way), some (.int (ns.length : Int)), some (.ref D), o5, o6, o7, o8, o9]) ∧ SmI ns kvs ∧ Full ns kvs ns.length 0 ∧ kvs.length ≤ 100 + i ∧ H' D = some (.dT kvs) ∧ H' p = some (.lst (ns.map V.str)) ∧ Bag H' b ∧ But b H H')
      ⟨kvs, ⟨_, _, rfl⟩, sm, fu, lk, hD4, hp4, hb4, k4⟩ ?_ ?_
    · rintro i σ H5 hi ⟨kvs, ⟨o8, o9, rfl⟩, sm, fu, lk, hD, hp5, hb5, k5⟩
      refine ⟨_, rfl, _, rfl, _, rfl, b, (ns.length : Int), rfl, by omega, by omega, hb5, fun q1 H6 q10 q11 hb6 k6 => ?_⟩
      obtain ⟨u1, rfl⟩ := Int.eq_ofNat_of_zero_le q10
      obtain ⟨l, hl⟩ : ∃ x, ns[u1]? = some x := ⟨_, List.getElem?_eq_getElem (by omega)⟩
      have at_ : ∀ {k : Nat} {y : Str}, ns[k]? = some y → atI (ns.map V.str) (k : Int) = some (V.str y) := fun h => atI_nat (by rw [List.getElem?_map, h]; rfl)
      have hp6 := k6 _ _ hp5 pb
      refine ⟨p, _, _, _, rfl, rfl, SqL.of hp6, at_ hl, ?_⟩
      refine ⟨_, rfl, _, rfl, _, rfl, b, (ns.length : Int), rfl, by omega, by omega, hb6, fun q2 H7 q20 q21 hb7 k7 => ?_⟩
      obtain ⟨u2, rfl⟩ := Int.eq_ofNat_of_zero_le q20
      obtain ⟨r, hr'⟩ : ∃ x, ns[u2]? = some x := ⟨_, List.getElem?_eq_getElem (by omega)⟩
      have hp7 := k7 _ _ hp6 pb
      refine ⟨p, _, _, _, rfl, rfl, SqL.of hp7, at_ hr', (by show 2 ≤ sizeLine; decide), fun t nt => ?_⟩
      have s8 := Same.new (o := .tup [V.str l, .str r]) nt
      have g8 := upd_same (H := H7) (a := t) (o := .tup [V.str l, .str r])
      generalize upd H7 t (.tup [V.str l, .str r]) = H8 at *
      have hb8 := hb7.same s8
      have k58 := (k6.trans k7).trans (Same.but b s8)
      -- names + [None]
      refine ⟨_, rfl, (by show 1 ≤ sizeLine; decide), fun nl nnl => ?_⟩
      have s9 := Same.new (o := .lst [V.non]) nnl
      have g9 := upd_same (H := H8) (a := nl) (o := .lst [V.non])
      generalize upd H8 nl (.lst [V.non]) = H9 at *
      have hp9 := (s8.trans s9) _ _ hp7
      refine ⟨p, nl, _, _, rfl, rfl, hp9, g9, Nat.le_of_lt (small1000 (by rw [List.length_map]; show _ + 1 ≤ 1000; omega)), fun pl npl => ?_⟩
      have sA := Same.new (o := .lst (ns.map V.str ++ [V.non])) npl
      have gA := upd_same (H := H9) (a := pl) (o := .lst (ns.map V.str ++ [V.non]))
      have plb : pl ≠ b := (hb8.same s9).ne npl
      generalize upd H9 pl (.lst (ns.map V.str ++ [V.non])) = HA at *
      have hbA := (hb8.same s9).same sA
      have k5A := k58.trans (Same.but b (s9.trans sA))
      refine ⟨_, rfl, _, rfl, _, _, rfl, rfl, b, (ns.length : Int) + 1, rfl, by omega, by omega, hbA, fun q3 HB q30 q31 hbB kB => ?_⟩
      obtain ⟨u3, rfl⟩ := Int.eq_ofNat_of_zero_le q30
      obtain ⟨o, ho, hon⟩ := names_none (ns := ns) (u := u3) (by omega)
      refine ⟨pl, _, _, _, rfl, rfl, SqL.of (kB _ _ gA plb), ho, ?_⟩
      have k5B := k5A.trans kB
      have hDB : HB D = some (.dT kvs) := k5B _ _ hD Db
      have gB : HB t = some (.tup [V.str l, .str r]) := tup_but hbA kB _ _ ((s9.trans sA) _ _ g8)
      refine ⟨_, rfl, _, rfl, D, _, rfl, DPut.t (k := [.inr l, .inr r]) hDB gB (small1000 (by omega)), putK kvs [.inr l, .inr r] (optV o), ⟨_, _, rfl⟩, sm.put (List.mem_of_getElem? hl) (List.mem_of_getElem? hr') o hon, fu.put _ _, ?_, upd_same, ?_, hbB.new Db, But.newer nDH (k5.trans k5B)⟩
      · have := length_putK kvs [.inr l, .inr r] (optV o)
        omega
      · rw [upd_ne pD]
        exact k5B _ _ hp5 pb
    rintro σ H5 ⟨kvs, ⟨o8, o9, rfl⟩, sm, fu, lk, hD, hp5, hb5, k5⟩
    clear hD4 hp4 hb4 k4 hb3 k3 hp3
    -- some that raise
    refine ⟨fun σ H' => ∃ kvs, (∃ o9, σ = [some (.ref b), some (.ref p), some (.int way), some (.int (ns.length : Int)), some (.ref D), o5, o6, o7, o8, o9]) ∧ SmI ns kvs ∧ Full ns kvs ns.length 0 ∧ kvs.length ≤ 102 ∧ H' D = some (.dT kvs) ∧ Bag H' b ∧ But b H H', ?_, ?_⟩
    · refine ⟨_, rfl, b, 4, rfl, by decide, by decide, hb5, fun z H6 z0 z4 hb6 k6 => ⟨rfl, _, rfl, ?_⟩⟩
      have hD6 : H6 D = some (.dT kvs) := k6 _ _ hD Db
      refine ite2 (fun c => ?_) (fun c => ?_)
      · refine ⟨_, rfl, D, kvs, rfl, hD6, (fun q hq => by obtain ⟨l, _, r, _, e⟩ := sm.ke q hq; exact ⟨l, r, e⟩), fun ys q keys ly nq => ?_⟩
        have s7 := Same.new (o := .lst ys) nq
        have g7 := upd_same (H := H6) (a := q) (o := .lst ys)
        have qb : q ≠ b := hb6.ne nq
        have qD : q ≠ D := (ne_of_none hD6 nq).symm
        generalize upd H6 q (.lst ys) = H7 at *
        have k57 := k6.trans (Same.but b s7)
        refine ⟨q, rfl, ⟨_, SqL.of g7⟩, ?_⟩
        refine for_list (xs := ys) (fun j σ H' => ∃ kvs', (∃ o9, σ = [some (.ref b), some (.ref p), some (.int way), some (.int (ns.length : Int)), some (.ref D), o5, o6, o7, o8, o9]) ∧ SmI ns kvs' ∧ Full ns kvs' ns.length 0 ∧ kvs'.length = kvs.length ∧ (∀ k, (valV kvs k).isSome = true → (valV kvs' k).isSome = true) ∧ H' D = some (.dT kvs') ∧ H' q = some (.lst ys) ∧ (∀ t xs, H6 t = some (.tup xs) → H' t = some (.tup xs)) ∧ Bag H' b ∧ But b H H')
          ⟨kvs, ⟨_, rfl⟩, sm, fu, rfl, fun _ h => h, s7 _ _ hD6, g7, fun t xs h => s7 _ _ h, hb6.same s7, k5.trans k57⟩ (fun j σ H' _ h => by obtain ⟨_, _, _, _, _, _, _, h, _⟩ := h; exact SqL.of h) ?_ ?_
        · rintro j y σ H8 hy ⟨kvs', ⟨o9, rfl⟩, sm', fu', lk', old, hD8, hq8, tk8, hb8, k8⟩
          obtain ⟨t, kv, hkv, rfl, ht⟩ := keys y (List.mem_of_getElem? hy)
          obtain ⟨l, hl, r, hr', ek⟩ := sm.ke kv hkv
          rw [ek] at ht
          have ht8 := tk8 _ _ ht
          have is : (valV kvs kv.1).isSome = true := val_isSome hkv
          rw [ek] at is
          have is' := old _ is
          refine ⟨_, rfl, b, 5, rfl, by decide, by decide, hb8, fun z H9 z0 z5 hb9 k9 => ⟨rfl, _, rfl, ?_⟩⟩
          have hD9 : H9 D = some (.dT kvs') := k9 _ _ hD8 Db
          have ht9 : H9 t = some (.tup [V.str l, .str r]) := tup_but hb8 k9 _ _ ht8
          have le9 : kvs'.length < sizeLine := small1000 (by omega)
          have fin : ∀ o : Option Str, (∀ x, o = some x → x ∈ ns) → ∃ H', DPut H9 D (.ref t) (optV o) H' ∧ ∃ kvs', (∃ o9, [some (V.ref b), some (.ref p), some (.int way), some (.int (ns.length : Int)), some (.ref D), o5, o6, o7, o8, some (.ref t)] = [some (V.ref b), some (.ref p), some (.int way), some (.int (ns.length : Int)), some (.ref D), o5, o6, o7, o8, o9]) ∧ SmI ns kvs' ∧ Full ns kvs' ns.length 0 ∧ kvs'.length = kvs.length ∧ (∀ k, (valV kvs k).isSome = true → (valV kvs' k).isSome = true) ∧ H' D = some (.dT kvs') ∧ H' q = some (.lst ys) ∧ (∀ t xs, H6 t = some (.tup xs) → H' t = some (.tup xs)) ∧ Bag H' b ∧ But b H H' := fun o ho => by
            refine ⟨_, DPut.t (k := [.inr l, .inr r]) hD9 ht9 le9, putK kvs' [.inr l, .inr r] (optV o), ⟨_, rfl⟩, sm'.put hl hr' o ho, fu'.put _ _, by rw [len_put_old is', lk'], fun k h => ?_, upd_same, ?_, fun t' xs h => ?_, hb9.new Db, But.newer nDH (k8.trans k9)⟩
            · rw [valV_put]
              split
              · rfl
              · exact old k h
            · rw [upd_ne qD]
              exact k9 _ _ hq8 qb
            · rw [upd_ne (ne_of (tup_but hb8 k9 _ _ (tk8 _ _ h)) hD9 (by intro z; cases z))]
              exact tup_but hb8 k9 _ _ (tk8 _ _ h)
          refine ite2 (fun c => ?_) (fun c => ?_)
          · obtain ⟨H', hput, rest⟩ := fin none (fun x hx => by cases hx)
            exact ⟨_, rfl, _, rfl, D, H', rfl, hput, rest⟩
          · obtain ⟨o, ho, hon⟩ := sm'.val is'
            obtain ⟨H', hput, rest⟩ := fin o hon
            refine ⟨_, rfl, _, rfl, D, optV o, rfl, ?_, ?_⟩
            · have := DGet.t (k := [.inr l, .inr r]) hD9 ht9
              rw [ho] at this
              exact this
            · exact ⟨_, rfl, _, rfl, D, H', rfl, hput, rest⟩
        · rintro σ H8 ⟨kvs', ⟨o9, rfl⟩, sm', fu', lk', old, hD8, hq8, tk8, hb8, k8⟩
          exact ⟨kvs', ⟨_, rfl⟩, sm', fu', by omega, hD8, hb8, k8⟩
      · exact ⟨kvs, ⟨_, rfl⟩, sm, fu, by omega, hD6, hb6, k5.trans k6⟩
    rintro σ H6 ⟨kvs, ⟨o9, rfl⟩, sm, fu, lk, hD, hb6, k6⟩
    exact ⟨_, rfl, k D kvs H6 nDH hD ⟨sm, fu.all, by omega⟩ hb6 k6⟩
end
end K89
namespace Vgi
open PySem PySem.Spec PyProof.Rows L2 SlX Vc
/-! ### x[y], x an instance whose class has __getitem__ -/
section
variable {X : Cx} {C g : Addr} {sp : Sp} {E : XK} {n : Nat} {CXs : CXT} {a b : Expr} {ta tb : TE} {pos : Pos}
def rGetI (C : Addr) (sp : Sp) (E : XK) : R2 := fun x y H Q => ∃ a dx fs, x = .ref a ∧ H a = some (.ins C dx fs) ∧ sp [x, y] H Q E
theorem pe_ixI (hs : PySem.W.findIn X.K (.ref C) "__getitem__" = some (some (.ref g))) (hf : PySem.W.fnIn X.K g = true) (hfn : PySem.W.isFn X.K (.ref g) = true) (F : FnR X.prog X.w X.K X.mg X.base CXs n g sp) (hr : Room (n + 1) X.A) (hx : Passes CXs X E)
    (ha : PE X a ta) (hb : PE X b tb) (hsl : ∀ (o : Addr) (i : Value), subscripted b true (.ref o) i = runValue (.builtin "lifetime.subscript" ⟨[.ref o, i], []⟩) := by intro _ _; with_unfolding_all rfl) : PE X (.Subscript a b pos) (tOp (rGetI C sp E) ta tb) := by
  refine ⟨fun pins s σ H Q I h => ?_⟩
  refine Subscript_ (binT ha hb I h fun v u s2 x y H2 I2 rx ry q => ?_)
  obtain ⟨p, dx, fs, rfl, hp, q⟩ := q
  cases (show v = Value.ref p from rx)
  obtain ⟨mA, O, _⟩ := ins_get I2.hok hp
  obtain ⟨od, J, _⟩ := O.look
  obtain ⟨m, hF⟩ := I2.fr
  refine PySem.W.sub_K hF I2.ok.mod.kin J hs hf hfn (wpAny_mono (wpAny_call (run_at (us := [.ref p, u]) (ws := [.ref p, y]) F hr.in1 I2.env0.in1 hx I2 (.cons rfl (.cons ry .nil)) q)) (fun w s' z => z) fun _ _ x => x) (hsl p u)
end
end Vgi
namespace VB
open PySem PySem.W PyProof.Rows
abbrev keTail : List Value := [.type "KeyError", .type "LookupError", .type "Exception", .type "BaseException", .type "object"]
abbrev leTail : List Value := keTail.drop 1
abbrev ieTail : List Value := .type "IndexError" :: leTail
abbrev aeTail : List Value := .type "ArithmeticError" :: keTail.drop 2
abbrev veT : List Value := .type "ValueError" :: keTail.drop 2
abbrev teTail : List Value := .type "TypeError" :: keTail.drop 2
abbrev reTail : List Value := .type "RuntimeError" :: keTail.drop 2
/-! ### an own class over a built-in exception, called: with names or without -/
section
variable {M : Model} {A : Around} {E : Value → Shared → Prop} {h : Heap} {g : Array GenState} {d : Drawn} {t : Nat} {os : OsState}
variable {nm q : Str} {C N : Addr} {bs bm bmB : List Value} {hdct : Bool} {sn : List Str} {sub : List Value} {ab : Bool} {col : Option Bool} {dd : Option Addr} {k0 k1 k2 k3 k5 : Option Value} {B newId initId : String}
/-- the class at C, made by newId -/
def At (h : Heap) (C : Addr) (bm : List Value) (newId : String) : Prop := ∃ nm q N bs hdct sn sub ab col dd k0 k1 k2 k3 k5, h.get? C = some (excClassObj nm q C N bs bm hdct sn sub ab col dd k0 k1 k2 k3 k5 newId)
/-- what its mro says of the built-in B -/
structure Over (bm : List Value) (B : String) : Prop where
  b : bm.contains (.type B) = true
  a : bm.contains (.type "AttributeError") = false
  n : bm.contains (.type "NameError") = false
theorem checkNew (F : ExcBaseFacts B newId initId bmB) (O : Over bm B) {vs : List Value} {kw : List (Str × Value)} {Q : Unit → Shared → Prop} (hC : At h C bm newId) (hq : Q () ⟨h, g, d, t, os⟩) :
    wpAny M A (checkBuiltinCall newId ⟨.ref C :: vs, kw⟩) Q E ⟨h, g, d, t, os⟩ := by
  obtain ⟨nm, q, N, bs, hdct, sn, sub, ab, col, dd, k0, k1, k2, k3, k5, hC⟩ := hC
  have inB : (Value.ref C :: bm).contains (.type B) = true := by rw [List.contains_cons, O.b, Bool.or_true]
  have ns := F.noStar
  simp only [checkBuiltinCall, F.newKind, F.newSplit, F.newRow]
  repeat (first
    | refine wpAny_loadPart_at hC ?_
    | (refine wpAny_isSubtype_exc hC ?_; rw [inB])
    | refine wpAny_staticBase_exc hC ?_
    | refine wpAny_madeBy_exc hC ?_
    | simp only [bne_self_eq_false, Bool.false_eq_true, if_false]
    | wp_step)
  all_goals exact hq
end
section
variable {prog : Program} {w : World} {A : Around} {E : Value → Shared → Prop} {R : Result → Shared → Prop} {h : Heap} {g : Array GenState} {d : Drawn} {t : Nat} {os : OsState}
variable {C : Addr} {bm bmB : List Value} {B newId initId : String}
theorem runNew (F : ExcBaseFacts B newId initId bmB) (O : Over bm B) {vs : List Value} {kw : List (Str × Value)} (hC : At h C bm newId) (hz : vs.length ≤ sizeLine)
    (hq : R (.ok (.ret (.ref (h.objs.size + 1)))) ⟨(h.push (excTup vs)).push (excObj C h.objs.size none .none), g, d, t, os⟩) :
    codeAny (model prog w) A (.builtin newId ⟨.ref C :: vs, kw⟩) R ⟨h, g, d, t, os⟩ := by
  obtain ⟨nm, q, N, bs, hdct, sn, sub, ab, col, dd, k0, k1, k2, k3, k5, hC⟩ := hC
  have e0 := F.ends
  have inB : (Value.ref C :: bm).contains (.type B) = true := by rw [List.contains_cons, O.b, Bool.or_true]
  have inA : (Value.ref C :: bm).contains (.type "AttributeError") = false := by rw [List.contains_cons, O.a] <;> rfl
  have inN : (Value.ref C :: bm).contains (.type "NameError") = false := by rw [List.contains_cons, O.n] <;> rfl
  refine codeAny_builtinAt F.entry ?_
  unfold Builtin.«BaseException.__new__»
  refine PySem.wpAt_bind ?_
  show PySem.wpAt _ _ _ (stack >>= _) _ _ _
  refine PySem.wpAt_bind (PySem.wpAt_stack fun p below => PySem.wpAt_of_wpAny ?_)
  wp_walk
  refine PySem.wpAt_of_wpAny ?_
  rw [F.owner]
  repeat (first
    | with_reducible refine wpAny_madeHere_exc F.canon hC ?_
    | with_reducible refine wpAny_loadPart_at hC ?_
    | (with_reducible refine wpAny_isSubtype_exc hC ?_; first | rw [inB] | rw [inA] | rw [inN])
    | wp_step)
  show R _ _
  rw [Heap.size_push]
  exact hq
theorem runType (F : ExcBaseFacts B newId initId bmB) (O : Over bm B) {vs : List Value} {kw : List (Str × Value)} {fI : Addr} {Q : Fin → Shared → Prop} (hC : At h C bm newId)
    (hi : W.Looks (model prog w) h (typeLookup (.ref C) "__init__") (some (.ref fI))) (hb : ∀ self, W.Looks (model prog w) h (bindSpecial (.ref fI) self) (.ref fI, [self])) (hz : vs.length ≤ sizeLine)
    (hq : codeAny (model prog w) A (.call (.ref fI) ⟨.ref (h.objs.size + 1) :: vs, kw⟩)
      (fun r s' => match r with | .ok (.ret v) => v = .none ∧ Q (.done (.ret (.ref (h.objs.size + 1)))) s' | .ok _ => False | .error e => E e s') ⟨(h.push (excTup vs)).push (excObj C h.objs.size none .none), g, d, t, os⟩) :
    wpAny (model prog w) A (Builtin.«type.__call__» ⟨.ref C :: vs, kw⟩) Q E ⟨h, g, d, t, os⟩ := by
  have hC' := hC
  obtain ⟨nm, q, N, bs, hdct, sn, sub, ab, col, dd, k0, k1, k2, k3, k5, hC⟩ := hC
  repeat (first | with_reducible refine wpAny_loadPart_at hC ?_ | with_reducible refine wpAny_madeBy_exc hC ?_ | wp_step)
  refine codeAny_call_builtin_code (Code.quiet_builtin _ F.quiet) (checkNew F O hC' ?_)
  refine runNew F O hC' hz ?_
  show wpAny _ _ _ _ _ _
  have up : ∀ b o, h.get? b = some o → ((h.push (excTup vs)).push (excObj C h.objs.size none .none)).get? b = some o := fun b o e => Heap.get?_push_of_some _ (Heap.get?_push_of_some _ e)
  have hC1 := up _ _ hC
  have at1 : ((h.push (excTup vs)).push (excObj C h.objs.size none .none)).get? (h.objs.size + 1) = some (excObj C h.objs.size none .none) := by heap_get
  have inC : (Value.ref C :: bm).contains (.ref C) = true := by simp
  have i1 := hi.keeps up
  have b1 := (hb (.ref (h.objs.size + 1))).keeps up
  unfold isInstance
  repeat (first | with_reducible refine wpAny_loadPart_at at1 ?_ | (with_reducible refine wpAny_isSubtype_exc hC1 ?_; rw [inC]) | wp_step)
  show wpAny _ _ (typeLookup (.ref C) _) _ _ _
  refine i1.at ?_
  refine wpAny_holding (wpAny_bind (b1.at ?_))
  refine wpAny_bind (wpAny_call (codeAny_mono hq fun r s' z => ?_))
  rcases r with e | (v | _ | _ | _) <;> first | exact z | exact z.elim | skip
  obtain ⟨rfl, z⟩ := z
  first
    | exact wpAny_pure (wpAny_pure z)
    | (wp_walk; exact z)
theorem checkType {M : Model} {vs : List Value} {kw : List (Str × Value)} {Q : Unit → Shared → Prop} (hC : At h C bm newId) (hq : Q () ⟨h, g, d, t, os⟩) : wpAny M A (checkBuiltinCall "type.__call__" ⟨.ref C :: vs, kw⟩) Q E ⟨h, g, d, t, os⟩ := by
  obtain ⟨nm, q, N, bs, hdct, sn, sub, ab, col, dd, k0, k1, k2, k3, k5, hC⟩ := hC
  have f3 := tc_sub
  have hT : (⟨h, g, d, t, os⟩ : Shared).TypeIs (.ref C) "type" := ⟨_, hC, rfl⟩
  simp only [checkBuiltinCall, tc_kind, tc_split]
  repeat (any_goals (first | assumption | with_reducible refine wpAny_loadPart_at hC ?_ | with_reducible refine wpAny_onRaise ?_ | with_reducible refine wpAny_map ?_ | wp_step))
theorem runCall (F : ExcBaseFacts B newId initId bmB) (O : Over bm B) {vs : List Value} {kw : List (Str × Value)} {fI : Addr} (hC : At h C bm newId)
    (hi : W.Looks (model prog w) h (typeLookup (.ref C) "__init__") (some (.ref fI))) (hb : ∀ self, W.Looks (model prog w) h (bindSpecial (.ref fI) self) (.ref fI, [self])) (hz : vs.length ≤ sizeLine)
    (hq : codeAny (model prog w) (A.under (.builtin "type.__call__" ⟨.ref C :: vs, kw⟩)) (.call (.ref fI) ⟨.ref (h.objs.size + 1) :: vs, kw⟩) (W.InitBack (h.objs.size + 1) R)
      ⟨(h.push (excTup vs)).push (excObj C h.objs.size none .none), g, d, t, os⟩) :
    codeAny (model prog w) A (.call (.ref C) ⟨vs, kw⟩) R ⟨h, g, d, t, os⟩ := by
  have f1 := tc_lookup
  have f2 := tc_bind (.ref C)
  have hC' := hC
  obtain ⟨nm, q, N, bs, hdct, sn, sub, ab, col, dd, k0, k1, k2, k3, k5, hC⟩ := hC
  have hT : (⟨h, g, d, t, os⟩ : Shared).TypeIs (.ref C) "type" := ⟨_, hC, rfl⟩
  refine codeAny_of_tree ?_
  show wpAny _ _ (callAny (.ref C) _) _ _ _
  repeat (any_goals (first | assumption | with_reducible refine wpAny_loadPart_at hC ?_ | wp_step))
  refine ⟨rfl, ?_⟩
  refine codeAny_call_builtin_at (Code.quiet_builtin _ (by decide +kernel)) entry_typeCall (checkType hC' (runType F O hC' hi hb hz ?_))
  refine codeAny_mono hq fun r s' z => ?_
  rcases r with e | (v | _ | _ | _) <;> exact z
end
end VB
namespace VY
open PySem PySem.W PySem.Calls PyProof.Rows VB
/-- a built-in exception's own __init__ -/
structure InF (i B : String) : Prop where
  kind : builtinKind i = some .slot
  row : Manifest.signature? i = some ⟨.positional, "*", B, .self, [⟨"args", .varPos, false⟩]⟩
  ent : entryFor table i = some Builtin.«BaseException.__init__»
  plain : plainId i = true
  star : (B != "*") = true
theorem InF.of {B newId i : String} {bm : List Value} (F : ExcBaseFacts B newId i bm) : InF i B := ⟨F.initKind, F.initRow, F.initEntry, F.init.plain, F.noStar⟩
theorem inKE : InF "KeyError.__init__" "KeyError" := ⟨by decide +kernel, by kernel_rfl, entryFor_alias (id' := "BaseException.__init__") (by rw [fastTable_eq_tree] <;> kernel_rfl) (by first | rfl | decide +kernel) (by decide +kernel) (by rw [fastTable_eq_tree] <;> kernel_rfl), by decide +kernel, by decide +kernel⟩
structure Base (B i newId : String) (bmB : List Value) : Prop where
  new : ∃ B' i' bm', ExcBaseFacts B' newId i' bm' ∧ Over bmB B'
  ini : InF i B
  kx : KxsFacts B i
  pass : ∀ self, refuseLoop self "__setattr__" bmB = pure ()
  ob : bmB.contains (.type "object") = true
theorem Base.of {B newId i : String} {bm : List Value} (F : ExcBaseFacts B newId i bm) (k : KxsFacts B i) (s : StoreFacts B bm "object.__setattr__" "object") : Base B i newId bm := ⟨⟨_, _, _, F, F.hasB, F.noAttr, F.noName⟩, InF.of F, k, s.passes, s.hasOwner⟩
theorem bVE : Base "ValueError" "ValueError.__init__" "ValueError.__new__" veT := .of PySem.F.excBase_ValueError kxs_ValueError PySem.F.store_ValueError
theorem bLE : Base "LookupError" "LookupError.__init__" "LookupError.__new__" leTail := .of PySem.F.excBase_LookupError kxs_LookupError PySem.F.store_LookupError
theorem bIE : Base "IndexError" "IndexError.__init__" "IndexError.__new__" ieTail := .of PySem.F.excBase_IndexError kxs_IndexError PySem.F.store_IndexError
theorem bAE : Base "ArithmeticError" "ArithmeticError.__init__" "ArithmeticError.__new__" aeTail := .of PySem.F.excBase_ArithmeticError kxs_ArithmeticError PySem.F.store_ArithmeticError
theorem bTE : Base "TypeError" "TypeError.__init__" "TypeError.__new__" teTail := .of PySem.F.excBase_TypeError kxs_TypeError PySem.F.store_TypeError
theorem bRE : Base "RuntimeError" "RuntimeError.__init__" "RuntimeError.__new__" reTail := .of PySem.F.excBase_RuntimeError kxs_RuntimeError PySem.F.store_RuntimeError
theorem kxKE : KxsFacts "KeyError" "KeyError.__init__" := ⟨(by show builtinType _ = _; rw [builtinType_eq_fast] <;> kernel_rfl), (by first | kernel_rfl | rfl)⟩
theorem bKE : Base "KeyError" "KeyError.__init__" "LookupError.__new__" keTail where
  new := ⟨_, _, _, PySem.F.excBase_LookupError, by decide +kernel, by decide +kernel, by decide +kernel⟩
  ini := inKE
  kx := kxKE
  pass := fun self => by kernel_rfl
  ob := by decide +kernel
section
variable {prog : Program} {w : World} {M : Model} {A : Around} {E : Value → Shared → Prop} {h : Heap} {g : Array GenState} {d : Drawn} {t : Nat} {os : OsState} {C e u x : Addr} {bm : List Value} {B i newId : String}
theorem checkIn (I : InF i B) {oe : Obj} {vs : List Value} {Q : Unit → Shared → Prop} (hC : At h C bm newId) (he : h.get? e = some oe) (hcls : oe.cls = .ref C) (hq : Q () ⟨h, g, d, t, os⟩) : wpAny M A (checkBoundCall i ⟨.ref e :: vs, []⟩) Q E ⟨h, g, d, t, os⟩ := by
  obtain ⟨nm, q, N, bs, hdct, sn, sub, ab, col, dd, k0, k1, k2, k3, k5, hC⟩ := hC
  have ns := I.star
  simp only [checkBoundCall, I.kind, I.row]
  repeat (first | (with_reducible refine wpAny_loadPart_at he ?_; rw [hcls]) | with_reducible refine wpAny_loadPart_at hC ?_ | wp_step)
  refine wpAny_onRaise ?_
  have ok : ∀ (a b : String) (n : Nat), Bind.check ⟨.positional, "*", B, .self, [⟨"args", .varPos, false⟩]⟩ a b n (([] : List (Str × Value)).map (·.1)) = pure () := fun a b n => check_star_args _ _ _ _ _ _
  rw [ok]
  exact wpAny_pure hq
/-- super().__init__(..), called -/
theorem callIn (I : InF i B) {t0 : Addr} {vs : List Value} {Q : Value → Shared → Prop} (hC : At h C bm newId) (hu : h.get? u = some (kxs_mw i x)) (hx : h.get? x = some (excObj C t0 none .none)) (hz : vs.length ≤ sizeLine)
    (hq : ∀ h' t1, (∀ b o, b ≠ x → h.get? b = some o → h'.get? b = some o) → h'.get? x = some (excObj C t1 none .none) → Q .none ⟨h', g, d, t, os⟩) : wpAny (model prog w) A (call (.ref u) vs) Q E ⟨h, g, d, t, os⟩ := by
  refine wpAny_call (codeAny_of_tree ?_)
  show wpAny _ A.in1 (callAny (.ref u) ⟨vs, []⟩) _ _ _
  have m : (Value.type "method-wrapper" == Value.type "method" || Value.type "method-wrapper" == Value.type "builtin_function_or_method" || Value.type "method-wrapper" == Value.type "method-wrapper") = true := by decide
  simp only [callAny]
  refine wpAny_bind (wpAny_load hu ?_)
  simp only [kxs_mw, m, if_true]
  refine KFB.if_so (by decide) ?_
  refine wpAny_bind (checkIn I hC hx rfl ?_)
  refine wpAny_bind (wpAny_pure (wpAny_pure ?_))
  refine ⟨plainId_quiet I.plain _, codeAny_builtin I.ent ?_⟩
  exact exc_init_tree (cls := .ref C) (t0 := t0) (dv := none) (c2 := .none) (c3 := .none) (b4 := .bool false) hx hz fun h' k e' _ => hq h' _ k e'
end
end VY
namespace VZ
open PySem PySem.W PySem.Calls PyProof.Rows VB VY
/-- the text of an __init__ that says super().__init__(lit) and self.f = f -/
def nA (f : Str) (p1 p2 : Pos) : Arguments := { posonlyargs := [], args := [{ arg := "self", annotation := none, pos := p1 }, { arg := f, annotation := none, pos := p2 }], vararg := none, kwonlyargs := [], kw_defaults := [], kwarg := none, defaults := [] }
def nB (f lit : Str) (q1 q2 q3 q4 q5 q6 q7 q8 q9 qa : Pos) : List Stmt :=
  [.Expr (.Call (.Attribute (.Call (.Name "super" q1) [] [] q2) "__init__" q3) [.Constant (.str lit) 0 q4] [] q5) q6, .Assign [.Attribute (.Name "self" q7) f q8] (.Name f q9) qa]
def nS (f : Str) : Scope := { kind := .function, names := [(PySem.Str.ofString "self", .local), (f, .local), (PySem.Str.ofString "__class__", .free), (PySem.Str.ofString "super", .globalImplicit)], isGenerator := false, isCoroutine := false, more := [] }
/-- of one that says super().__init__() -/
def zA (p1 : Pos) : Arguments := { posonlyargs := [], args := [{ arg := "self", annotation := none, pos := p1 }], vararg := none, kwonlyargs := [], kw_defaults := [], kwarg := none, defaults := [] }
def zB (q1 q2 q3 q5 q6 : Pos) : List Stmt := [.Expr (.Call (.Attribute (.Call (.Name "super" q1) [] [] q2) "__init__" q3) [] [] q5) q6]
def zS : Scope := { kind := .function, names := [(PySem.Str.ofString "self", .local), (PySem.Str.ofString "__class__", .free), (PySem.Str.ofString "super", .globalImplicit)], isGenerator := false, isCoroutine := false, more := [] }
/-- what the written part says of the class at C and of its __init__ at fI -/
structure TxtC (prog : Program) (K : Frag) (C fI : Addr) (B i newId : String) (bmB : List Value) : Prop where
  cls : ∃ nm q N bs bm sn sub ab col dd k0 k1 k2 k3 k5, K.lookup C = some (excClassObj nm q C N bs bm true sn sub ab col dd k0 k1 k2 k3 k5 newId) ∧ excTail bmB bm = true
  iC : findIn K (.ref C) "__init__" = some (some (.ref fI))
  tC : typeIn K (.ref fI) = some (.type "function")
  kC : keepIn K (.ref C) = true
  exC : subIn K (.ref C) (.type "BaseException") = some true
  tyC : typeIn K (.ref C) = some (.type "type")
  beC : subIn K (.ref C) (.type B) = some true
  up : ks_superIn K C C "__init__" = some (some (.builtin i))
  me : mroIn K C (.ref C) = some true
  tp : nsIn K cStatics "thirdparty.any" = some none
  sup : nsIn K mainGlobals "super" = some none
  top : (prog.main.scope.names.lookup ("super" : Str)).isSome = false
structure TxtF (prog : Program) (K : Frag) (mg : Str → Option Value) (C fI : Addr) (qual f lit : Str) (B i newId : String) (bmB : List Value) : Prop extends TxtC prog K C fI B i newId bmB where
  sa : findIn K (.ref C) "__setattr__" = some (some (.builtin "object.__setattr__"))
  noN : findIn K (.ref C) f = some none
  bd : ∀ (B : List Stmt) (p1 p2 : Pos) (doc pm : Value) (an : Option Addr) (cdv ct : Value) (cc : Addr) (a v : Value), bindArgs (ksFn "__init__" qual (nA f p1 p2) B (nS f) .none .none doc pm an cdv ct cc) ⟨[a, v], []⟩ = pure [(("self" : Str), a), (f, v)]
  bk : ∀ (B : List Stmt) (p1 p2 : Pos) (doc pm : Value) (an : Option Addr) (cdv ct : Value) (cc : Addr) (a v : Value), bindArgs (ksFn "__init__" qual (nA f p1 p2) B (nS f) .none .none doc pm an cdv ct cc) ⟨[a], [(f, v)]⟩ = pure [(("self" : Str), a), (f, v)]
  lk : (nS f).names.lookup ("self" : Str) = some .local ∧ (nS f).names.lookup f = some .local ∧ (nS f).names.lookup ("__class__" : Str) = some .free ∧ (nS f).names.lookup ("super" : Str) = some .globalImplicit
  sf : (("self" : Str) == f) = false
  db : (f == ("__debug__" : Str)) = false
  fn : ∃ (oc : Value) (od : Option Addr) (doc pm : Value) (an : Option Addr) (cda cc : Addr) (ct : Value) (osl : Array (Option Value)) (p1 p2 q1 q2 q3 q4 q5 q6 q7 q8 q9 qa : Pos),
    K.lookup fI = some ⟨oc, od, .func (ksFn "__init__" qual (nA f p1 p2) (nB f lit q1 q2 q3 q4 q5 q6 q7 q8 q9 qa) (nS f) .none .none doc pm an (.ref cda) ct cc), osl⟩ ∧ codeIn K (.ref cda) qual = true ∧ (q3.endLine == q5.line) = true ∧
    (∃ cl cld csl, K.lookup cc = some ⟨cl, cld, .cell (some (.ref C)), csl⟩) ∧
    (∃ ccl cdd vs ccs file tf, K.lookup cda = some ⟨ccl, cdd, .fields vs, ccs⟩ ∧ vs[2]? = some (.str file tf) ∧ ((prog.main.file : Str) == file) = true)
structure Txt0 (prog : Program) (K : Frag) (mg : Str → Option Value) (C fI : Addr) (qual : Str) (B i newId : String) (bmB : List Value) : Prop extends TxtC prog K C fI B i newId bmB where
  bd : ∀ (B : List Stmt) (p1 : Pos) (doc pm : Value) (an : Option Addr) (cdv ct : Value) (cc : Addr) (a : Value), bindArgs (ksFn "__init__" qual (zA p1) B zS .none .none doc pm an cdv ct cc) ⟨[a], []⟩ = pure [(("self" : Str), a)]
  fn : ∃ (oc : Value) (od : Option Addr) (doc pm : Value) (an : Option Addr) (cda cc : Addr) (ct : Value) (osl : Array (Option Value)) (p1 q1 q2 q3 q5 q6 : Pos),
    K.lookup fI = some ⟨oc, od, .func (ksFn "__init__" qual (zA p1) (zB q1 q2 q3 q5 q6) zS .none .none doc pm an (.ref cda) ct cc), osl⟩ ∧ codeIn K (.ref cda) qual = true ∧ (q3.endLine == q5.line) = true ∧
    (∃ cl cld csl, K.lookup cc = some ⟨cl, cld, .cell (some (.ref C)), csl⟩) ∧
    (∃ ccl cdd vs ccs file tf, K.lookup cda = some ⟨ccl, cdd, .fields vs, ccs⟩ ∧ vs[2]? = some (.str file tf) ∧ ((prog.main.file : Str) == file) = true)
theorem ev_call {env : Env} {o : Expr} {name lit : Str} {q3 q4 q5 : Pos} (hpos : (q3.endLine == q5.line) = true) (hi : importBound o env = pure (some false)) :
    eval (.Call (.Attribute o name q3) [.Constant (.str lit) 0 q4] [] q5) env = (do
      let ov ← attributeBase o name env (eval o env)
      standAt q3.atName
      let (f, first) ← holding [ov] (getMethod ov name (do return (← importBound o env).getD true))
      callWith q5 f first (backTo q5 (starEach [.Constant (.str lit) 0 q4] env)) []) := by
  rw [arm_eval_Call]
  unfold methodCall methodCallPos
  have h2 : ∀ b : Bool, (!b || q3.endLine == q5.line) = true := fun b => by rw [hpos, Bool.or_true]
  simp only [h2, if_true]
  rfl
theorem ev_call0 {env : Env} {o : Expr} {name : Str} {q3 q5 : Pos} (hpos : (q3.endLine == q5.line) = true) (hi : importBound o env = pure (some false)) :
    eval (.Call (.Attribute o name q3) [] [] q5) env = (do
      let ov ← attributeBase o name env (eval o env)
      standAt q3.atName
      let (f, first) ← holding [ov] (getMethod ov name (do return (← importBound o env).getD true))
      callWith q5 f first (backTo q5 (starEach [] env)) []) := by
  rw [arm_eval_Call]
  unfold methodCall methodCallPos
  have h2 : ∀ b : Bool, (!b || q3.endLine == q5.line) = true := fun b => by rw [hpos, Bool.or_true]
  simp only [h2, if_true]
  rfl
section
open Builtin Builtin.ObjectAttr
variable {prog : Program} {w : World} {A : Around} {R : Result → Shared → Prop} {hp : Heap} {g : Array GenState} {d : Drawn} {t : Nat} {os : OsState}
/-- self.f = v: the dict is made -/
theorem osaNew {K : Frag} {name : Str} {tk : Tok} {v : Value} {x C : Addr} {fv : Array Value} {cd : ClassData} (X : K.In hp) (hx : hp.get? x = some { cls := .ref C, data := .fields fv }) (hcd : clsIn K C = some cd)
    (pass : ∀ self, refuseLoop self "__setattr__" cd.mro = pure ()) (ob : cd.mro.contains (.type "object") = true) (hh : cd.hasDict = true) (ha : findIn K (.ref C) name = some none)
    (hq : ∀ h' tk' dx, (∀ b o, b ≠ x → hp.get? b = some o → h'.get? b = some o) → hp.objs.size ≤ dx → dx ≠ x → h'.get? x = some { cls := .ref C, dict := some dx, data := .fields fv } →
      h'.Ns1 dx (fun y => if y = name then some v else none) → R (.ok (.ret .none)) ⟨h', g, d, tk', os⟩) :
    codeAny (model prog w) A (.call (.builtin "object.__setattr__") ⟨[.ref x, .str name tk, v], []⟩) R ⟨hp, g, d, t, os⟩ := by
  have I : InstAt hp x { cls := .ref C, data := .fields fv } C none := ⟨hx, rfl, rfl, trivial⟩
  have S := F.store_object
  have xs : x ≠ hp.objs.size := Nat.ne_of_lt (Heap.lt_size hx)
  have nonE : ¬ (cd.mro.isEmpty = true) := fun z => by
    rw [List.isEmpty_iff.mp z] at ob
    cases ob
  have isObj : Looks (model prog w) hp (isInstance (.ref x) (.type "object")) true := I.type.andThen (looks_mroIn X (by unfold mroIn; rw [hcd, Option.bind_some, if_neg nonE, ob]))
  refine codeAny_call_builtin S.slot.plain S.entry (@check_slot (model prog w) _ _ ⟨hp, g, d, t, os⟩ "object.__setattr__" "object" "__setattr__" (.ref x) [.str name tk, v] [] _ S.kind S.split isObj (S.args (.ref x) (.str name tk) v) ?_)
  have l1 : Looks (model prog w) hp (mroOf (.ref C)) cd.mro := (looks_clsIn X hcd).andThen .now
  have l2 : Looks (model prog w) hp (storeTaker? none) none := .now
  have l3 : Looks (model prog w) hp (classData C) cd := looks_clsIn X hcd
  rw [osa_eq, refuse_eq]
  refine wpAny_bind (wpAny_bind (I.type.at (wpAny_bind (l1.at ?_))))
  rw [pass]
  refine wpAny_pure (wpAny_bind (I.type.at (wpAny_bind ((looks_findIn X ha).at (wpAny_bind (l2.at ?_))))))
  show wpAny _ _ (storeInOwnDict (.ref x) (.ref C) (.str name tk) name v false) _ _ _
  obtain ⟨nm, bs, mro, ns, qn, hd, sn, sb, ab, col, del⟩ := cd
  dsimp only at hh
  subst hh
  unfold storeInOwnDict ownDictForStores
  repeat (first | with_reducible refine HandSPX.store_in_new ?_ ?_ | with_reducible refine wpAny_loadPart_at hx ?_ | with_reducible refine l3.at ?_ | wp_step)
  · exact ⟨_, #[], _, (Heap.get?_update_ne _ _ _ _ xs.symm).trans (Heap.get?_push_at rfl rfl), rfl, fun e he => absurd he (by simp), fun _ => rfl⟩
  · intro h' tk' hn' hs
    have x1 : (hp.push { cls := .type "dict", data := .dict #[] }).get? x = some { cls := .ref C, data := .fields fv } := Heap.get?_push_of_some _ hx
    refine hq h' tk' hp.objs.size (fun b o hb ho => ?_) (Nat.le_refl _) xs.symm ?_ hn'
    · exact (hs.2 b (Nat.ne_of_lt (Heap.lt_size ho))).trans ((Heap.get?_update_ne _ _ _ _ hb).trans (Heap.get?_push_of_some _ ho))
    · exact (hs.2 x xs).trans (Heap.get?_update_self _ x1 rfl)
end
section
variable {prog : Program} {w : World} {A : Around} {R : Result → Shared → Prop} {s : Shared} {K : Frag} {mg mb : Str → Option Value} {C fI : Addr} {qual f lit : Str} {hp : Heap} {B i newId : String} {bmB : List Value}
theorem init_run (T : TxtF prog K mg C fI qual f lit B i newId bmB) (BF : Base B i newId bmB) {x t0 : Addr} {v : Value} {ar : Args} (bd : ∀ (B' : List Stmt) (p1 p2 : Pos) (doc pm : Value) (an : Option Addr) (cdv ct : Value) (cc : Addr), bindArgs (ksFn "__init__" qual (nA f p1 p2) B' (nS f) .none .none doc pm an cdv ct cc) ar = pure [(("self" : Str), .ref x), (f, v)]) (X₀ : K.In hp) (hg : hp.Ns mainGlobals mg) (hb : hp.Ns builtinsNs mb) (hbb : ∀ y : Str, y ≠ "__name__" → mb y = bootBuiltins y) (hlim : hp.NoLimit)
    (kp : ∀ b o, hp.get? b = some o → s.heap.get? b = some o) (hsz : hp.objs.size ≤ s.heap.objs.size) (hx : s.heap.get? x = some (excObj C t0 none .none)) (hpx : hp.get? x = none) (hroom : A.depth < recursionLimit)
    (hq : ∀ h' tk dx t1, (∀ b o, hp.get? b = some o → h'.get? b = some o) → h'.get? x = some (excObj C t1 (some dx) .none) → hp.objs.size ≤ dx → dx ≠ x →
      h'.Ns1 dx (fun y => if y = f then some v else none) → R (.ok (.ret .none)) { s with heap := h', toks := tk }) :
    codeAny (model prog w) A (.call (.ref fI) ar) R s := by
  obtain ⟨oc, od, doc, pm, an, cda, cc, ct, osl, p1, p2, q1, q2, q3, q4, q5, q6, q7, q8, q9, qa, ho, hcd, hpos, ⟨cl, cld, csl, hcell⟩, ⟨ccl, cdd, vs, ccs, file, tf, hcode, hvs, hfile⟩⟩ := T.fn
  obtain ⟨nm, q, N, bs, bm, sn, sub, ab, col, dd, k0, k1, k2, k3, k5, hC, hbm⟩ := T.cls
  obtain ⟨lk1, lk2, lk3, lk4⟩ := T.lk
  have Xs : K.In s.heap := X₀.keeps kp
  have hcl : clsIn K C = some { name := nm, bases := bs, mro := .ref C :: bm, ns := N, qualname := q, hasDict := true, slotNames := sn, subclasses := sub, abstract := ab, collection := col, hasDel := false } := by unfold clsIn; rw [hC] <;> rfl
  refine ks_codeAny_call_defAt (fd := ksFn "__init__" qual (nA f p1 p2) (nB f lit q1 q2 q3 q4 q5 q6 q7 q8 q9 qa) (nS f) .none .none doc pm an (.ref cda) ct cc) (binds := [(("self" : Str), .ref x), (f, v)]) hroom (Xs _ _ ho) rfl (hlim.keeps kp) (codeRec_of Xs hcd) rfl
    (BindsTo.of_eq (bd _ _ _ _ _ _ _ _ _)) ?_ ?_ (fun h₁ hns k₁ => ?_) rfl rfl rfl
  · intro y hy
    rcases List.mem_cons.mp hy with rfl | hy
    · exact fun z => NameKind.noConfusion z
    rcases List.mem_cons.mp hy with rfl | hy
    · exact fun z => NameKind.noConfusion z
    rcases List.mem_cons.mp hy with rfl | hy
    · exact fun z => NameKind.noConfusion z
    rcases List.mem_cons.mp hy with rfl | hy
    · exact fun z => NameKind.noConfusion z
    cases hy
  · intro y hy
    rcases List.mem_cons.mp hy with rfl | hy
    · exact lk1
    rcases List.mem_cons.mp hy with rfl | hy
    · exact lk2
    cases hy
  have m1 : ([(("self" : Str), Value.ref x), (f, v)].reverse.lookup ("self" : Str)) = some (.ref x) := by
    show List.lookup ("self" : Str) [(f, v), (("self" : Str), Value.ref x)] = _
    simp [List.lookup, T.sf]
  have m2 : ([(("self" : Str), Value.ref x), (f, v)].reverse.lookup f) = some v := by
    show List.lookup f [(f, v), (("self" : Str), Value.ref x)] = _
    simp [List.lookup]
  have kh : ∀ b o, hp.get? b = some o → h₁.get? b = some o := fun b o e => k₁ b o (kp b o e)
  have F₁ : Fr hp s.heap.objs.size h₁ (fun y => [(("self" : Str), Value.ref x), (f, v)].reverse.lookup y) := ⟨hns, kh, hsz⟩
  have N₁ : News hp s.heap.objs.size h₁ [(x, excObj C t0 none .none)] := fun p hp' => by
    obtain rfl := List.mem_singleton.mp hp'
    exact ⟨k₁ _ _ hx, Nat.ne_of_lt (Heap.lt_size hx), hpx⟩
  refine ks_wpAt_execs_cons (ks_wpAt_Expr_any (ks_wpAt_MethodCall ?_ (ev_call hpos rfl)))
  have kc : ∀ {b : Addr} {o : Obj}, K.lookup b = some o → h₁.get? b = some o := fun e => kh _ _ (X₀ _ _ e)
  have X₁ : K.In h₁ := X₀.keeps kh
  have hx₁ := k₁ _ _ hx
  refine ks_wpAt_super_base (env := ksEnv qual (nS f) s.heap.objs.size fI (.ref cda) cc) lk4 lk3 (by decide) rfl (kc ho) rfl rfl rfl (kc hcode) rfl hvs hfile T.top ?_
  refine ks_loadName_global rfl lk4 (loadGlobal_builtin (hg.keeps kh) (mg_none_of X₀ hg T.sup) (hb.keeps kh) ((hbb _ (by decide +kernel)).trans (show bootBuiltins "super" = some (.type "super") by decide +kernel)) ⟨rfl, ?_⟩)
  refine wpAny_loadName_free rfl lk3 rfl ⟨_, kc hcell, rfl⟩ ?_
  refine wpAny_loadName_local rfl lk1 hns m1 ?_
  refine ks_wpAny_isType_cls (kc hC) rfl ⟨rfl, ?_⟩
  refine ks_wpAny_call_super (kc hC) rfl hx₁ rfl (fun c z => by cases z) (looks_mroIn X₁ T.me) (fun h₂ e₂ k₂ => ?_)
  obtain ⟨F₂, N₂, l₂⟩ := ks_newsPush (s := ⟨h₁, s.gens, s.drawn, s.toks + 2, s.os⟩) F₁ N₁ rfl e₂ k₂
  have kh₂ : ∀ b o, hp.get? b = some o → h₂.get? b = some o := fun b o e => k₂ b o (kh b o e)
  have X₂ : K.In h₂ := X₀.keeps kh₂
  have hx₂ := k₂ _ _ hx₁
  refine kxs_method (s := ⟨h₂, s.gens, s.drawn, s.toks + 2, s.os⟩) BF.kx F₂ X₀ N₂ List.mem_cons_self (InstAt.of_exc0 N₂ (List.mem_cons_of_mem _ List.mem_cons_self)) T.tp T.up T.beC (by decide) (fun u h₃ F₃ N₃ l₃ => ?_)
  refine kxs_callWith1 (s := ⟨h₃, s.gens, s.drawn, s.toks + 2 + 1, s.os⟩) (i := i) N₃ List.mem_cons_self ?_
  refine spliced_more (wpAny_Constant_str (spliced_none ⟨kxs_at N₃ List.mem_cons_self, ?_⟩))
  have nux : u ≠ x := fun z => by
    have := l₃ _ (List.mem_cons_of_mem _ List.mem_cons_self)
    rw [z] at this
    exact absurd this (Nat.lt_irrefl _)
  have nsx : h₁.objs.size ≠ x := fun z => by
    have := l₂ _ List.mem_cons_self
    rw [← z] at this
    exact absurd this (Nat.lt_irrefl _)
  have u3 := (N₃ _ List.mem_cons_self).1
  have x3 : h₃.get? x = some (excObj C t0 none .none) := (N₃ (x, excObj C t0 none .none) (by simp)).1
  have nLx : s.heap.objs.size ≠ x := Nat.ne_of_gt (Heap.lt_size hx)
  refine callIn BF.ini (bm := bm) (newId := newId) ⟨_, _, _, _, _, _, _, _, _, _, _, _, _, _, _, F₃.keep _ _ (X₀ _ _ hC)⟩ u3 x3 (by show 1 ≤ sizeLine; rw [sizeLine_eq]; omega) (fun h₄ t₄ k₄ hx₄ => ?_)
  have kh₄ : ∀ b o, hp.get? b = some o → h₄.get? b = some o := fun b o e => k₄ b o (fun z => by rw [z, hpx] at e; cases e) (F₃.keep b o e)
  have X₄ : K.In h₄ := X₀.keeps kh₄
  have n₄ : h₄.Ns s.heap.objs.size (fun y => [(("self" : Str), Value.ref x), (f, v)].reverse.lookup y) := by
    obtain ⟨oL, es, ep, hL, r⟩ := F₃.ns
    exact ⟨oL, es, ep, k₄ _ _ nLx hL, r⟩
  have z₄ : s.heap.objs.size < h₄.objs.size := n₄.lt
  refine ks_wpAt_execs_cons (ks_wpAt_Assign_Attr ?_)
  refine wpAt_of_wpAny (wpAny_Name ?_ T.db)
  refine wpAny_loadName_local rfl lk2 n₄ m2 ?_
  refine wpAny_Name ?_ (by decide)
  refine wpAny_loadName_local rfl lk1 n₄ m1 ?_
  refine set_plain X₄ (ox := excObj C t₄ none .none) (od := none) ⟨hx₄, rfl, rfl, trivial⟩ T.sa ?_
  refine osaNew X₄ hx₄ hcl (fun self => (refuseLoop_ref self _ C bm).trans (excTail_pass self (BF.pass self) bm hbm)) (show (Value.ref C :: bm).contains (.type "object") = true by rw [List.contains_cons, excTail_contains "object" _ hbm, BF.ob, Bool.or_true]) rfl T.noN (fun h₅ tk₅ dx k₅ dn dne hx₅ hn₅ => ?_)
  refine wpAt_of_wpAny (wpAny_execs_nil (hq h₅ tk₅ dx t₄ (fun b o e => k₅ b o (fun z => ?_) (kh₄ b o e)) hx₅ (Nat.le_trans hsz (Nat.le_trans (Nat.le_of_lt z₄) dn)) dne hn₅))
  rw [z, hpx] at e
  cases e
end
end VZ
namespace VZ
open PySem PySem.W PySem.Calls PyProof.Rows VB VY
section
variable {prog : Program} {w : World} {A : Around} {R : Result → Shared → Prop} {s : Shared} {K : Frag} {mg mb : Str → Option Value} {C fI : Addr} {qual f lit : Str} {hp : Heap} {B i newId : String} {bmB : List Value}
theorem init_run0 (T : Txt0 prog K mg C fI qual B i newId bmB) (BF : Base B i newId bmB) {x t0 : Addr} (X₀ : K.In hp) (hg : hp.Ns mainGlobals mg) (hb : hp.Ns builtinsNs mb) (hbb : ∀ y : Str, y ≠ "__name__" → mb y = bootBuiltins y) (hlim : hp.NoLimit)
    (kp : ∀ b o, hp.get? b = some o → s.heap.get? b = some o) (hsz : hp.objs.size ≤ s.heap.objs.size) (hx : s.heap.get? x = some (excObj C t0 none .none)) (hpx : hp.get? x = none) (hroom : A.depth < recursionLimit)
    (hq : ∀ h' tk t1, (∀ b o, hp.get? b = some o → h'.get? b = some o) → h'.get? x = some (excObj C t1 none .none) → R (.ok (.ret .none)) { s with heap := h', toks := tk }) :
    codeAny (model prog w) A (.call (.ref fI) ⟨[.ref x], []⟩) R s := by
  obtain ⟨oc, od, doc, pm, an, cda, cc, ct, osl, p1, q1, q2, q3, q5, q6, ho, hcd, hpos, ⟨cl, cld, csl, hcell⟩, ⟨ccl, cdd, vs, ccs, file, tf, hcode, hvs, hfile⟩⟩ := T.fn
  obtain ⟨nm, q, N, bs, bm, sn, sub, ab, col, dd, k0, k1, k2, k3, k5, hC, hbm⟩ := T.cls
  have lk1 : zS.names.lookup ("self" : Str) = some .local := by decide +kernel
  have lk3 : zS.names.lookup ("__class__" : Str) = some .free := by decide +kernel
  have lk4 : zS.names.lookup ("super" : Str) = some .globalImplicit := by decide +kernel
  have Xs : K.In s.heap := X₀.keeps kp
  have hcl : clsIn K C = some { name := nm, bases := bs, mro := .ref C :: bm, ns := N, qualname := q, hasDict := true, slotNames := sn, subclasses := sub, abstract := ab, collection := col, hasDel := false } := by unfold clsIn; rw [hC] <;> rfl
  refine ks_codeAny_call_defAt (fd := ksFn "__init__" qual (zA p1) (zB q1 q2 q3 q5 q6) zS .none .none doc pm an (.ref cda) ct cc) (binds := [(("self" : Str), .ref x)]) hroom (Xs _ _ ho) rfl (hlim.keeps kp) (codeRec_of Xs hcd) rfl
    (BindsTo.of_eq (T.bd _ _ _ _ _ _ _ _ _)) ?_ ?_ (fun h₁ hns k₁ => ?_) rfl rfl rfl
  · intro y hy
    rcases List.mem_cons.mp hy with rfl | hy
    · exact fun z => NameKind.noConfusion z
    rcases List.mem_cons.mp hy with rfl | hy
    · exact fun z => NameKind.noConfusion z
    rcases List.mem_cons.mp hy with rfl | hy
    · exact fun z => NameKind.noConfusion z
    cases hy
  · intro y hy
    rcases List.mem_cons.mp hy with rfl | hy
    · exact lk1
    cases hy
  have m1 : ([(("self" : Str), Value.ref x)].reverse.lookup ("self" : Str)) = some (.ref x) := by
    show List.lookup ("self" : Str) [(("self" : Str), Value.ref x)] = _
    simp [List.lookup]
  have kh : ∀ b o, hp.get? b = some o → h₁.get? b = some o := fun b o e => k₁ b o (kp b o e)
  have F₁ : Fr hp s.heap.objs.size h₁ (fun y => [(("self" : Str), Value.ref x)].reverse.lookup y) := ⟨hns, kh, hsz⟩
  have N₁ : News hp s.heap.objs.size h₁ [(x, excObj C t0 none .none)] := fun p hp' => by
    obtain rfl := List.mem_singleton.mp hp'
    exact ⟨k₁ _ _ hx, Nat.ne_of_lt (Heap.lt_size hx), hpx⟩
  refine ks_wpAt_execs_cons (ks_wpAt_Expr_any (ks_wpAt_MethodCall ?_ (ev_call0 hpos rfl)))
  have kc : ∀ {b : Addr} {o : Obj}, K.lookup b = some o → h₁.get? b = some o := fun e => kh _ _ (X₀ _ _ e)
  have X₁ : K.In h₁ := X₀.keeps kh
  have hx₁ := k₁ _ _ hx
  refine ks_wpAt_super_base (env := ksEnv qual (zS) s.heap.objs.size fI (.ref cda) cc) lk4 lk3 (by decide) rfl (kc ho) rfl rfl rfl (kc hcode) rfl hvs hfile T.top ?_
  refine ks_loadName_global rfl lk4 (loadGlobal_builtin (hg.keeps kh) (mg_none_of X₀ hg T.sup) (hb.keeps kh) ((hbb _ (by decide +kernel)).trans (show bootBuiltins "super" = some (.type "super") by decide +kernel)) ⟨rfl, ?_⟩)
  refine wpAny_loadName_free rfl lk3 rfl ⟨_, kc hcell, rfl⟩ ?_
  refine wpAny_loadName_local rfl lk1 hns m1 ?_
  refine ks_wpAny_isType_cls (kc hC) rfl ⟨rfl, ?_⟩
  refine ks_wpAny_call_super (kc hC) rfl hx₁ rfl (fun c z => by cases z) (looks_mroIn X₁ T.me) (fun h₂ e₂ k₂ => ?_)
  obtain ⟨F₂, N₂, l₂⟩ := ks_newsPush (s := ⟨h₁, s.gens, s.drawn, s.toks + 1, s.os⟩) F₁ N₁ rfl e₂ k₂
  have kh₂ : ∀ b o, hp.get? b = some o → h₂.get? b = some o := fun b o e => k₂ b o (kh b o e)
  have X₂ : K.In h₂ := X₀.keeps kh₂
  have hx₂ := k₂ _ _ hx₁
  refine kxs_method (s := ⟨h₂, s.gens, s.drawn, s.toks + 1, s.os⟩) BF.kx F₂ X₀ N₂ List.mem_cons_self (InstAt.of_exc0 N₂ (List.mem_cons_of_mem _ List.mem_cons_self)) T.tp T.up T.beC (by decide) (fun u h₃ F₃ N₃ l₃ => ?_)
  refine kxs_callWith0 (s := ⟨h₃, s.gens, s.drawn, s.toks + 1 + 1, s.os⟩) (i := i) N₃ List.mem_cons_self ?_
  have nux : u ≠ x := fun z => by
    have := l₃ _ (List.mem_cons_of_mem _ List.mem_cons_self)
    rw [z] at this
    exact absurd this (Nat.lt_irrefl _)
  have nsx : h₁.objs.size ≠ x := fun z => by
    have := l₂ _ List.mem_cons_self
    rw [← z] at this
    exact absurd this (Nat.lt_irrefl _)
  have u3 := (N₃ _ List.mem_cons_self).1
  have x3 : h₃.get? x = some (excObj C t0 none .none) := (N₃ (x, excObj C t0 none .none) (by simp)).1
  have nLx : s.heap.objs.size ≠ x := Nat.ne_of_gt (Heap.lt_size hx)
  refine callIn BF.ini (bm := bm) (newId := newId) ⟨_, _, _, _, _, _, _, _, _, _, _, _, _, _, _, F₃.keep _ _ (X₀ _ _ hC)⟩ u3 x3 (by show 0 ≤ sizeLine; rw [sizeLine_eq]; omega) (fun h₄ t₄ k₄ hx₄ => ?_)
  have kh₄ : ∀ b o, hp.get? b = some o → h₄.get? b = some o := fun b o e => k₄ b o (fun z => by rw [z, hpx] at e; cases e) (F₃.keep b o e)
  exact wpAt_of_wpAny (wpAny_execs_nil (hq h₄ _ t₄ kh₄ hx₄))
/-- what C(v) leaves: the exception at e, its dict at d -/
structure Made (h h' : Heap) (e C d : Addr) (f : Str) (v : Value) : Prop where
  keep : ∀ b o, h.get? b = some o → h'.get? b = some o
  new : h.objs.size ≤ e
  obj : ∃ t1 : Addr, h'.get? e = some (excObj C t1 (some d) .none)
  big : h.objs.size ≤ d
  dne : d ≠ e
  ns : h'.Ns1 d (fun y => if y = f then some v else none)
theorem over_of {bm : List Value} {B' : String} (O : Over bmB B') (h : excTail bmB bm = true) : Over bm B' := ⟨(excTail_contains _ _ h).trans O.b, (excTail_contains _ _ h).trans O.a, (excTail_contains _ _ h).trans O.n⟩
theorem push_two {h : Heap} {o1 o2 : Obj} : (∀ b o, h.get? b = some o → ((h.push o1).push o2).get? b = some o) ∧ h.get? (h.objs.size + 1) = none := by
  refine ⟨fun b o e => Heap.get?_push_of_some _ (Heap.get?_push_of_some _ e), ?_⟩
  cases z : h.get? (h.objs.size + 1) with
  | none => rfl
  | some o => exact absurd (Nat.lt_of_succ_lt (Heap.lt_size z)) (Nat.lt_irrefl _)
theorem made (T : TxtF prog K mg C fI qual f lit B i newId bmB) (BF : Base B i newId bmB) {v : Value} {vs : List Value} {kw : List (Str × Value)} (hz : vs.length ≤ sizeLine)
    (bd : ∀ (a : Value) (B' : List Stmt) (p1 p2 : Pos) (doc pm : Value) (an : Option Addr) (cdv ct : Value) (cc : Addr), bindArgs (ksFn "__init__" qual (nA f p1 p2) B' (nS f) .none .none doc pm an cdv ct cc) ⟨a :: vs, kw⟩ = pure [(("self" : Str), a), (f, v)])
    (X₀ : K.In s.heap) (hg : s.heap.Ns mainGlobals mg) (hb : s.heap.Ns builtinsNs mb) (hbb : ∀ y : Str, y ≠ "__name__" → mb y = bootBuiltins y) (hlim : s.heap.NoLimit)
    (hroom : A.depth + 1 < recursionLimit) (hq : ∀ h' tk e d, Made s.heap h' e C d f v → R (.ok (.ret (.ref e))) { s with heap := h', toks := tk }) : codeAny (model prog w) A (.call (.ref C) ⟨vs, kw⟩) R s := by
  obtain ⟨nm, q, N, bs, bm, sn, sub, ab, col, dd, k0, k1, k2, k3, k5, hC, hbm⟩ := T.cls
  obtain ⟨B', i', bm', F, O⟩ := BF.new
  obtain ⟨hp, g, dr, tk, os⟩ := s
  obtain ⟨kk, hpe⟩ := push_two (h := hp) (o1 := excTup vs) (o2 := excObj C hp.objs.size none .none)
  have he : ((hp.push (excTup vs)).push (excObj C hp.objs.size none .none)).get? (hp.objs.size + 1) = some (excObj C hp.objs.size none .none) := by heap_get
  refine runCall F (over_of O hbm) (bm := bm) ⟨_, _, _, _, _, _, _, _, _, _, _, _, _, _, _, X₀ _ _ hC⟩ (looks_findIn X₀ T.iC) (fun self => bind_fn X₀ self T.tC) hz ?_
  refine init_run (s := ⟨(hp.push (excTup vs)).push (excObj C hp.objs.size none .none), g, dr, tk, os⟩) T BF (bd (.ref (hp.objs.size + 1))) X₀ hg hb hbb hlim kk (by show hp.objs.size ≤ _; rw [Heap.size_push, Heap.size_push]; omega) he hpe hroom (fun h' tk' dx t1 k' hx db dn hn => ?_)
  exact ⟨rfl, hq h' tk' (hp.objs.size + 1) dx ⟨k', Nat.le_succ _, ⟨t1, hx⟩, db, dn, hn⟩⟩
theorem made0 (T : Txt0 prog K mg C fI qual B i newId bmB) (BF : Base B i newId bmB)
    (X₀ : K.In s.heap) (hg : s.heap.Ns mainGlobals mg) (hb : s.heap.Ns builtinsNs mb) (hbb : ∀ y : Str, y ≠ "__name__" → mb y = bootBuiltins y) (hlim : s.heap.NoLimit)
    (hroom : A.depth + 1 < recursionLimit) (hq : ∀ h' tk e t1, (∀ b o, s.heap.get? b = some o → h'.get? b = some o) → s.heap.objs.size ≤ e → h'.get? e = some (excObj C t1 none .none) → R (.ok (.ret (.ref e))) { s with heap := h', toks := tk }) : codeAny (model prog w) A (.call (.ref C) ⟨[], []⟩) R s := by
  obtain ⟨nm, q, N, bs, bm, sn, sub, ab, col, dd, k0, k1, k2, k3, k5, hC, hbm⟩ := T.cls
  obtain ⟨B', i', bm', F, O⟩ := BF.new
  obtain ⟨hp, g, dr, tk, os⟩ := s
  obtain ⟨kk, hpe⟩ := push_two (h := hp) (o1 := excTup []) (o2 := excObj C hp.objs.size none .none)
  have he : ((hp.push (excTup [])).push (excObj C hp.objs.size none .none)).get? (hp.objs.size + 1) = some (excObj C hp.objs.size none .none) := by heap_get
  refine runCall F (over_of O hbm) (bm := bm) ⟨_, _, _, _, _, _, _, _, _, _, _, _, _, _, _, X₀ _ _ hC⟩ (looks_findIn X₀ T.iC) (fun self => bind_fn X₀ self T.tC) (by show 0 ≤ sizeLine; rw [sizeLine_eq]; omega) ?_
  refine init_run0 (s := ⟨(hp.push (excTup [])).push (excObj C hp.objs.size none .none), g, dr, tk, os⟩) T BF X₀ hg hb hbb hlim kk (by show hp.objs.size ≤ _; rw [Heap.size_push, Heap.size_push]; omega) he hpe hroom (fun h' tk' t1 k' hx => ?_)
  exact ⟨rfl, hq h' tk' (hp.objs.size + 1) t1 k' (Nat.le_succ _) hx⟩
end
end VZ
namespace VV
open PySem PySem.Spec PySem.Calls PyProof.Rows PySem.W
section
variable {prog : Program} {w : World} {A : Around} {E : Value → Shared → Prop} {s : Shared} {K : Frag} {x D : Addr} {ox : Obj} {od : Option Obj}
theorem found (T : L2.ExcC K D) : findObj K D od "__class__" = some (.bind (.builtin "getset_descriptor.__get__") (.builtin "object.__class__")) := by
  obtain ⟨cd, hc, _⟩ := any_some T.hd
  unfold findObj
  rw [hc, Option.bind_some, T.ha, Option.bind_some]
  simp [T.hn, T.ht]
theorem cls_exc {Q : Option Value → Shared → Prop} (T : L2.ExcC K D) (X : K.In s.heap) (I : InstAt s.heap x ox D od) (h : Q (some (.ref D)) { s with toks := s.toks + 1 }) :
    wpAny (model prog w) A (getAttr? (.ref x) "__class__") Q E s := by
  obtain ⟨hp, gs, dr, tk, os⟩ := s
  have ty := I.type (M := model prog w)
  have ga := looks_findIn (M := model prog w) X T.hg
  have gt := looks_findIn (M := model prog w) X T.hk
  have fd := looks_find (M := model prog w) X I (found T)
  have n1 : (Value.builtin "BaseException.__getattribute__" == Value.builtin "object.__getattribute__") = false := by decide +kernel
  have bd := PySem.F.excAttr_ValueError.ga.bind (.ref x)
  unfold getAttr? getAttrBy? getAttrBy
  repeat (first | (with_reducible refine ty.at ?_) | (with_reducible refine ga.at ?_) | wp_step)
  refine gt.at ?_
  unfold callGetattribute boundAndCalled
  repeat (first | (simp only [bd, Bool.false_and, Bool.false_eq_true, if_false]) | wp_step)
  have sb : Looks (model prog w) hp (isInstance (.ref x) (.type "BaseException")) true := ty.andThen (looks_subIn X T.hs)
  have ar := PySem.F.args_bexc_ga (.ref x) (.str "__class__" tk)
  refine codeAny_call_builtin PySem.F.excAttr_ValueError.ga.plain PySem.F.entry_bexc_ga (@check_slot (model prog w) _ _ ⟨hp, gs, dr, tk + 1, os⟩ "BaseException.__getattribute__" "BaseException" "__getattribute__" (.ref x) [.str "__class__" tk] [] _ (by decide +kernel) (by decide +kernel) sb ar ?_)
  unfold Builtin.«object.__getattribute__»
  refine wpAny_bind (wpAny_of_eq (a := ((Value.ref x : Value), [Value.str "__class__" tk])) (by first | rfl | (simp only [slotArgs]; rfl)) ?_)
  repeat (first | (with_reducible refine ty.at ?_) | (with_reducible refine fd.at ?_) | wp_step)
  refine class_get (s := ⟨hp, gs, dr, tk + 1, os⟩) (ox := ox) (od := od) X I T.hm ?_
  repeat (first | (rw [handedOut_of (v := .ref D) rfl]) | wp_step)
  exact h
/-- such an exception, whatever dict it has -/
theorem kit (T : L2.ExcC K D) : KitX K (.ref x) (.ref D) (fun h => ∃ od, InstAt h x ox D od) where
  ty := fun _ _ _ ⟨_, I⟩ => I.type
  it := fun _ _ X _ => by
    obtain ⟨cd, hc, _⟩ := any_some T.hd
    unfold clsIn at hc
    split at hc
    · rename_i ho
      intro A' Q' E' s' k q
      exact wpAny_bind (wpAny_loadPart (k _ _ (X _ _ ho)) (wpAny_pure q))
    · cases hc
  ne := fun h tp dd its n sl X htp => by
    obtain ⟨cd, hc, _⟩ := any_some T.hd
    cases q : ((.ref D : Value) == .ref tp) with
    | false => rfl
    | true =>
      obtain rfl : D = tp := Value.ref.inj (beq_iff_eq.mp q)
      unfold clsIn at hc
      split at hc
      · rename_i ho
        cases (X _ _ ho).symm.trans htp
      · cases hc
  ca := fun X ⟨_, I⟩ k => cls_exc T X I k
end
end VV
namespace VV
open PySem PySem.Spec PyProof.Rows L2 VB VY VZ
abbrev exO (C t : Addr) (od : Option Addr) : Obj := PySem.W.excObj C t od .none
/-- an exception of the own class at C, its dict at od -/
def ExV (C : Addr) (od : Option Addr) (e : Addr) : HO := .ext fun h => ∃ t1, h.get? e = some (exO C t1 od)
theorem exv_ok {P : Program} {w : World} {H : Hp} {h : Heap} {e C t1 : Addr} {od : Option Addr} (g : h.get? e = some (exO C t1 od)) : ObjOk P w H h e (ExV C od e) :=
  ⟨⟨t1, g⟩, ⟨_, g⟩, fun _ _ ⟨t2, q⟩ k => ⟨t2, k _ q⟩⟩
section
variable {X : Cx} {C fI : Addr} {qual f lit n B i newId : Str} {pins : List (Addr × Obj)} {σ : L2.St} {H : Hp} {s : Shared}
/-- the exception and its dict are laid -/
theorem lay {v : V} {u : Value} {h' : Heap} {g : Array GenState} {dr : Drawn} {tk tk' : Nat} {os : OsState} {hp : Heap} {e d : Addr} {Q : VK} (I1 : Inv X pins σ H ⟨hp, g, dr, tk, os⟩) (rv : RelV v u) (M : Made hp h' e C d f u)
    (q : ∀ e d, H e = none → H d = none → e ≠ d → Q (.ref e) (upd (upd H d (.xd [(f, v)])) e (ExV C (some d) e))) : EP X pins σ Q (.ref e) ⟨h', g, dr, tk', os⟩ := by
  obtain ⟨t1, hoe⟩ := M.obj
  obtain ⟨G', g1, g2⟩ := restrict h' fun b => decide (b ≠ e)
  have gk : ∀ b, b ≠ e → G'.get? b = h'.get? b := fun b hb => g1 b (decide_eq_true hb)
  have ge : G'.get? e = none := g2 e (by simp)
  have old : ∀ b o, hp.get? b = some o → G'.get? b = some o := fun b o q => (gk b (Nat.ne_of_lt (Nat.lt_of_lt_of_le (Heap.lt_size q) M.new))).trans (M.keep b o q)
  have ob : ObjOk X.prog X.w (upd H d (.xd [(f, v)])) G' d (.xd [(f, v)]) :=
    ⟨_, M.ns.at (fun o q => (gk d M.dne).trans q), fun y => relO_put rv (mA := fun _ => none) (fs := []) (fun _ => True.intro) y⟩
  have J : Inv X pins σ (upd H d (.xd [(f, v)])) ⟨G', g, dr, tk', os⟩ := I1.laid (t' := tk') old M.big ob
  have fe : H e = none := I1.hok.fresh M.new
  have fd : H d = none := I1.hok.fresh M.big
  have up : ∀ b o, G'.get? b = some o → h'.get? b = some o := fun b o q => by
    by_cases hb : b = e
    · rw [hb, ge] at q
      cases q
    · rw [← gk b hb]
      exact q
  have nu : upd H d (.xd [(f, v)]) e = none := by
    rw [upd_ne (Ne.symm M.dne)]
    exact fe
  exact ⟨.ref e, _, J.laidN (s := ⟨G', g, dr, tk', os⟩) (h' := h') (t' := tk') up ge nu (exv_ok hoe), rfl, q e d fe fd (Ne.symm M.dne)⟩
end
end VV
namespace VV
open PySem PySem.Spec PyProof.Rows L2 VB VY VZ
section
variable {X : Cx} {C fI : Addr} {qual f lit n : Str} {B i newId : String} {bmB : List Value} {k : Nat} {p pos : Pos}
/-- what a new exception with the field v leaves -/
def newV (C : Addr) (f : Str) (v : V) : Hp → VK → Prop := fun H Q => ∀ e d, H e = none → H d = none → e ≠ d → Q (.ref e) (upd (upd H d (.xd [(f, v)])) e (ExV C (some d) e))
def tMkV (C : Addr) (f : Str) (ta : TA) : TE := fun σ H Q => ta σ H fun vs H1 => ∃ v, vs = [v] ∧ newV C f v H1 Q
/-- n(e), the class at C -/
theorem pe_mkV {a : Expr} {ta : TA} (T : TxtF X.prog X.K X.mg C fI qual f lit B i newId bmB) (BF : Base B i newId bmB) (hm : X.mg n = some (.ref C)) (hr : Room k X.A) (ha : PA X [a] ta) (hg : Gl X n) (hdb : (n == ("__debug__" : Str)) = false := by decide)
    (he : starEach (a :: []) X.env = (false, eval a X.env) :: starEach [] X.env := by rfl) (hpl : (backTo pos (starEach [] X.env)).any (·.1) = false := by rfl) : PE X (.Call (.Name n p) [a] [] pos) (tMkV C f ta) := by
  refine ⟨fun pins s σ H Q I h => ?_⟩
  refine wpAny_Call_Name_kw (ld_glob I hg hm ?_ hdb)
  refine PySem.W.callWith_K (h₀ := X.base) I.ok.mod.kin T.kC (thn (ha.run pos pins s σ H _ I h) fun us s1 ⟨vs, H1, I1, r1, v, ev, q1⟩ => ?_) he hpl
  subst ev
  refine ⟨I1.kIn, ?_⟩
  obtain ⟨u, rfl, rv⟩ := r1.one
  have hlim := I1.nolimit
  have bs := fun b o e => (I1.bs b o e).1
  obtain ⟨mb, hb, hbb⟩ := I1.ok.mod.blt
  have hg1 := I1.ok.mod.glob.keeps bs
  have hb1 := hb.keeps bs
  obtain ⟨hp, g, dr, tk, os⟩ := s1
  exact wpAny_call (made T BF (by show 1 ≤ sizeLine; rw [sizeLine_eq]; omega) (fun a B' p1 p2 doc pm an cdv ct cc => T.bd B' p1 p2 doc pm an cdv ct cc a u) I1.kIn hg1 hb1 hbb hlim (by have := hr.dp; omega) fun h' tk' e d M => lay I1 rv M q1)
/-- n(f = e) -/
def tMkK (C : Addr) (f : Str) (tk : TA) : TE := fun σ H Q => tk σ H fun zs H1 => ∃ v, zs = [v] ∧ newV C f v H1 Q
theorem pe_mkK {kws : List Keyword} {tk : TA} (T : TxtF X.prog X.K X.mg C fI qual f lit B i newId bmB) (BF : Base B i newId bmB) (hm : X.mg n = some (.ref C)) (hr : Room k X.A) (hkw : PK X kws tk) (hg : Gl X n)
    (hall : (backToKw pos (keywordEach kws X.env)).all (·.1.isSome) = true := by rfl) (hks : (backToKw pos (keywordEach kws X.env)).filterMap (·.1) = [f] := by rfl) (hdb : (n == ("__debug__" : Str)) = false := by decide)
    (hpl : ((backTo pos (starEach [] X.env)).any (·.1) || (backToKw pos (keywordEach kws X.env)).any (·.1.isNone)) = false := by rfl) : PE X (.Call (.Name n p) [] kws pos) (tMkK C f tk) := by
  refine ⟨fun pins s σ H Q I h => ?_⟩
  refine wpAny_Call_Name_kw (ld_glob I hg hm ?_ hdb)
  refine PySem.W.callWith_KW0 (h₀ := X.base) I.ok.mod.kin T.kC hall ?_ hpl
  refine thn (hkw.run pos pins s σ H _ I h) fun ws s1 ⟨zs, H1, I1, r1, v, ev, q1⟩ => ⟨I1.kIn, ?_⟩
  rw [hks]
  subst ev
  obtain ⟨u, rfl, rv⟩ := r1.one
  have hlim := I1.nolimit
  have bs := fun b o e => (I1.bs b o e).1
  obtain ⟨mb, hb, hbb⟩ := I1.ok.mod.blt
  have hg1 := I1.ok.mod.glob.keeps bs
  have hb1 := hb.keeps bs
  obtain ⟨hp, g, dr, tk, os⟩ := s1
  exact wpAny_call (made T BF (vs := []) (kw := [(f, u)]) (by show 0 ≤ sizeLine; rw [sizeLine_eq]; omega) (fun a B' p1 p2 doc pm an cdv ct cc => T.bk B' p1 p2 doc pm an cdv ct cc a u) I1.kIn hg1 hb1 hbb hlim (by have := hr.dp; omega) fun h' tk' e d M => lay I1 rv M q1)
/-- n(), a class without a field -/
def tMk0 (C : Addr) : TE := fun σ H Q => ∀ e, H e = none → Q (.ref e) (upd H e (ExV C none e))
theorem pe_mk0 (T : Txt0 X.prog X.K X.mg C fI qual B i newId bmB) (BF : Base B i newId bmB) (hm : X.mg n = some (.ref C)) (hr : Room k X.A) (hg : Gl X n) (hdb : (n == ("__debug__" : Str)) = false := by decide)
    (hall : (backToKw pos (keywordEach [] X.env)).all (·.1.isSome) = true := by rfl) (hks : (backToKw pos (keywordEach [] X.env)).filterMap (·.1) = [] := by rfl)
    (hpl : ((backTo pos (starEach [] X.env)).any (·.1) || (backToKw pos (keywordEach [] X.env)).any (·.1.isNone)) = false := by rfl) : PE X (.Call (.Name n p) [] [] pos) (tMk0 C) := by
  refine ⟨fun pins s σ H Q I h => ?_⟩
  refine wpAny_Call_Name_kw (ld_glob I hg hm ?_ hdb)
  refine PySem.W.callWith_KW0 (h₀ := X.base) I.ok.mod.kin T.kC hall ?_ hpl
  refine thn ((pk_nil (X := X)).run pos pins s σ H (fun zs H1 => H1 = H) I rfl) fun ws s1 ⟨zs, H1, I1, r1, e1⟩ => ⟨I1.kIn, ?_⟩
  rw [hks]
  subst e1
  have hlim := I1.nolimit
  have bs := fun b o e => (I1.bs b o e).1
  obtain ⟨mb, hb, hbb⟩ := I1.ok.mod.blt
  have hg1 := I1.ok.mod.glob.keeps bs
  have hb1 := hb.keeps bs
  obtain ⟨hp, g, dr, tk, os⟩ := s1
  exact wpAny_call (made0 T BF I1.kIn hg1 hb1 hbb hlim (by have := hr.dp; omega) fun h' tk' e t1 kp nw ge => ⟨.ref e, _, I1.laid (t' := tk') kp nw (exv_ok ge), rfl, h e (I1.hok.fresh nw)⟩)
/-- e.f, e an exception held as a value -/
def tFldV (K : PySem.W.Frag) (f : Str) (te : TE) : TE := fun σ H Q => te σ H fun x H1 => ∃ (a C dd : Addr) (fs : List (Str × V)) (v : V), x = .ref a ∧ H1 a = some (ExV C (some dd) a) ∧ XfC K C ∧ PySem.W.findIn K (.ref C) f = some none ∧ H1 dd = some (.xd fs) ∧ fs.lookup f = some v ∧ Q v H1
theorem pe_fldV {e : Expr} {te : TE} (he : PE X e te) (hb : attributeBase e n X.env (eval e X.env) = eval e X.env := by rfl) : PE X (.Attribute e n pos) (tFldV X.K n te) := by
  refine ⟨fun pins s σ H Q I h => ?_⟩
  refine attr_of hb (thn (he.run pins s σ H _ I h) fun u s1 hh => ?_)
  obtain ⟨x, H1, I1, rx, a, C, dd, fs, v, ex, ha, T, hno, hd, l, q⟩ := hh
  subst ex
  obtain rfl : u = Value.ref a := rx
  obtain ⟨⟨t1, ga⟩, _⟩ := I1.hok a _ ha
  have hx : ObjOk X.prog X.w H1 s1.heap dd (.xd fs) := I1.hok dd _ hd
  obtain ⟨mA, hns, hr⟩ := hx
  obtain ⟨od, ho, hl⟩ := lookIn_ns hns
  obtain ⟨u, hu, ru⟩ := RelO.some_of (v := v) (o := mA n) (by rw [← l]; exact hr n)
  have J : PySem.W.InstAt s1.heap a (exO C t1 (some dd)) C (some od) := ⟨ga, rfl, rfl, ho⟩
  exact HandSPX.exc_get I1.kIn J T.ga T.gg T.exC (PySem.W.findObj_own T.hdC hno rfl (by rw [hl, hu])) (handed_of ru) ⟨v, H1, I1.tok _, ru, q⟩
theorem instV {pins : List (Addr × Obj)} {σ : L2.St} {H : Hp} {s : Shared} {a C : Addr} {od : Option Addr} (I : Inv X pins σ H s) (ha : H a = some (ExV C od a)) (hd : ∀ dd, od = some dd → ∃ fs, H dd = some (.xd fs)) : ∃ t1 o, PySem.W.InstAt s.heap a (exO C t1 od) C o := by
  obtain ⟨⟨t1, ga⟩, _⟩ := I.hok a _ ha
  cases od with
  | none => exact ⟨t1, none, ga, rfl, rfl, trivial⟩
  | some dd =>
    obtain ⟨fs, ed⟩ := hd dd rfl
    have hx : ObjOk X.prog X.w H s.heap dd (.xd fs) := I.hok dd _ ed
    obtain ⟨mA, hns, hr⟩ := hx
    obtain ⟨od, ho, hl⟩ := lookIn_ns hns
    exact ⟨t1, some od, ga, rfl, rfl, ho⟩
/-- an exception stands at a -/
def Held (H : Hp) (a C : Addr) : Prop := ∃ od, H a = some (ExV C od a) ∧ ∀ dd, od = some dd → ∃ fs, H dd = some (.xd fs)
/-- isinstance(e, c) -/
def rIsV (K : PySem.W.Frag) : List V → Hp → VK → Prop := fun xs H Q => ∃ (a C : Addr) (c : V) (u : Value) (b : Bool), xs = [.ref a, c] ∧ Held H a C ∧ ExcC K C ∧ ClsV c u ∧ PySem.W.kitOne K (.ref C) u = some b ∧ Q (.bl b) H
theorem call_isV : CallR X (.builtin "isinstance") (rIsV X.K) := by
  intro pins s σ H xs us Q I r h
  obtain ⟨a, C, c, u, b, rfl, ⟨od, ha, hd⟩, T, hc, e, q⟩ := h
  obtain ⟨u1, u2, rfl, r1, r2⟩ := vals2 r
  cases (show u1 = Value.ref a from r1)
  have e2 := hc.eq r2
  subst e2
  obtain ⟨t1, o, J⟩ := instV I ha hd
  exact PySem.W.kia_one (kit T) I.kIn ⟨o, J⟩ e (fun z => nomatch z) fun tk => ⟨.bl b, H, I.tok tk, rfl, q⟩
/-- isinstance(e, (c1, c2, ..)) -/
def rIsVT (K : PySem.W.Frag) : List V → Hp → VK → Prop := fun xs H Q => ∃ (a C tp : Addr) (cs : List V) (us : List Value) (b : Bool), xs = [.ref a, .ref tp] ∧ Held H a C ∧ ExcC K C ∧ H tp = some (.tup cs) ∧ Paired ClsV cs us ∧ PySem.W.kitAny K (.ref C) us = some b ∧ Q (.bl b) H
theorem call_isVT : CallR X (.builtin "isinstance") (rIsVT X.K) := by
  intro pins s σ H xs us Q I r h
  obtain ⟨a, C, tp, cs, ws, b, rfl, ⟨od, ha, hd⟩, T, hT, k, e, q⟩ := h
  obtain ⟨u1, u2, rfl, r1, r2⟩ := vals2 r
  cases (show u1 = Value.ref a from r1)
  cases (show u2 = Value.ref tp from r2)
  obtain ⟨_, its, rv, o, h1, h2, n, h3⟩ := (show ObjOk X.prog X.w H s.heap tp (.tup cs) from I.hok tp _ hT)
  have e3 := ClsV.all k rv
  subst e3
  obtain ⟨oc, od', dt, sl⟩ := o
  simp only at h2 h3
  subst h2 h3
  obtain ⟨t1, o, J⟩ := instV I ha hd
  exact PySem.W.kia_tup (kit T) I.kIn ⟨o, J⟩ h1 e (fun z => nomatch z) fun tk => ⟨.bl b, H, I.tok tk, rfl, q⟩
end
end VV
/-! an own class with a field, over any built-in base, made where it is raised -/
namespace L2
open PySem PySem.Spec PyProof.Rows VZ VY VB
section
variable {X : Cx} {C fI : Addr} {qual f lit n : Str} {B i newId : String} {bmB : List Value} {k : Nat} {p pos : Pos}
/-- what raising n(e) leaves -/
def tMkF (C : Addr) (f : Str) (ta : TA) : L2.St → Hp → XK → Prop := fun σ H Q => ta σ H fun vs H1 => ∃ v, vs = [v] ∧ ∀ d, H1 d = none → Q (.ref C) (some d) (upd H1 d (.xd [(f, v)]))
theorem pmk_f {a : Expr} {ta : TA} (T : TxtF X.prog X.K X.mg C fI qual f lit B i newId bmB) (BF : Base B i newId bmB) (hm : X.mg n = some (.ref C)) (hr : Room k X.A) (ha : PA X [a] ta) (hg : Gl X n) (hdb : (n == ("__debug__" : Str)) = false := by decide)
    (he : starEach (a :: []) X.env = (false, eval a X.env) :: starEach [] X.env := by rfl) (hpl : (backTo pos (starEach [] X.env)).any (·.1) = false := by rfl) : PMk X (.Call (.Name n p) [a] [] pos) (tMkF C f ta) := by
  intro pins s σ H Q I h
  refine wpAny_Call_Name_kw (ld_glob I hg hm ?_ hdb)
  refine PySem.W.callWith_K (h₀ := X.base) I.ok.mod.kin T.kC (thn (ha.run pos pins s σ H _ I h) fun us s1 ⟨vs, H1, I1, r1, v, ev, q1⟩ => ?_) he hpl
  subst ev
  refine ⟨I1.kIn, ?_⟩
  obtain ⟨u, rfl, rv⟩ := r1.one
  have hlim := I1.nolimit
  have bs := fun b o e => (I1.bs b o e).1
  obtain ⟨mb, hb, hbb⟩ := I1.ok.mod.blt
  have hg1 := I1.ok.mod.glob.keeps bs
  have hb1 := hb.keeps bs
  obtain ⟨hp, g, dr, tk, os⟩ := s1
  refine wpAny_call (made T BF (by show 1 ≤ sizeLine; rw [sizeLine_eq]; omega) (fun a B' p1 p2 doc pm an cdv ct cc => T.bd B' p1 p2 doc pm an cdv ct cc a u) I1.kIn hg1 hb1 hbb hlim (by have := hr.dp; omega) fun h' tk' e d M => ?_)
  show MkP X pins σ Q (.ref e) ⟨h', g, dr, tk', os⟩
  obtain ⟨t1, hoe⟩ := M.obj
  obtain ⟨G', g1, g2⟩ := restrict h' fun b => decide (b ≠ e)
  have gk : ∀ b, b ≠ e → G'.get? b = h'.get? b := fun b hb => g1 b (decide_eq_true hb)
  have ge : G'.get? e = none := g2 e (by simp)
  have old : ∀ b o, hp.get? b = some o → G'.get? b = some o := fun b o q => (gk b (Nat.ne_of_lt (Nat.lt_of_lt_of_le (Heap.lt_size q) M.new))).trans (M.keep b o q)
  have ob : ObjOk X.prog X.w (upd H1 d (.xd [(f, v)])) G' d (.xd [(f, v)]) :=
    ⟨_, M.ns.at (fun o q => (gk d M.dne).trans q), fun y => relO_put rv (mA := fun _ => none) (fs := []) (fun _ => True.intro) y⟩
  have J : Inv X pins σ (upd H1 d (.xd [(f, v)])) ⟨G', g, dr, tk', os⟩ := I1.laid (t' := tk') old M.big ob
  refine ⟨e, _, _, ⟨G', g, dr, tk', os⟩, _, .ref C, some d, rfl, J, fun b o q => ?_, ge, hoe, ⟨rfl, rfl⟩, rfl, rfl, ?_, rfl, I1.bare, raises_own T.exC T.tyC, q1 d (I1.hok.fresh M.big)⟩
  · by_cases hb : b = e
    · have q' : G'.get? b = some o := q
      rw [hb, ge] at q'; cases q'
    · exact (gk b hb).symm.trans q
  · rw [upd_ne (Ne.symm M.dne)]
    exact I1.hok.fresh M.new
end
/-- two promises of one def -/
theorem FnOk.orS {P : Program} {w : World} {K : PySem.W.Frag} {mg : Str → Option Value} {base : Heap} {CX : CXT} {k : Nat} {f : Addr} {fd : FuncData} {ps : List Str} {sp sp' : Sp} (F : FnOk P w K mg base CX k f fd ps sp) (G : FnOk P w K mg base CX k f fd ps sp') :
    FnOk P w K mg base CX k f fd ps (fun vs H Q E => sp vs H Q E ∨ sp' vs H Q E) :=
  ⟨fun vs H Q E q => q.elim (F.len vs H Q E) (G.len vs H Q E), fun A outer s H args us vs Q E hr he hb hv hs => hs.elim (F.run A outer s H args us vs Q E hr he hb hv) (G.run A outer s H args us vs Q E hr he hb hv)⟩
/-- a def that lets nothing out, seen among those that may -/
theorem FnOk.toX {P : Program} {w : World} {K : PySem.W.Frag} {mg : Str → Option Value} {base : Heap} {k : Nat} {f : Addr} {fd : FuncData} {ps : List Str} {sp : Sp} (F : FnOk P w K mg base CX0 k f fd ps sp) :
    FnOk P w K mg base (L2.CX P w) k f fd ps sp :=
  ⟨F.len, fun A outer s H args us vs Q E hr he hb hv hs => codeAny_mono (F.run A outer s H args us vs Q E hr he hb hv hs) fun r s' hq => by
    cases r with
    | ok x => cases x <;> first | exact hq | exact hq.elim
    | error e => exact hq.elim⟩
theorem FunD.okX {P : Program} {w : World} {K : PySem.W.Frag} {mg : Str → Option Value} {base : Heap} {x qual : Str} {params : Arguments} {body : List Stmt} {scope : Scope} {dvs : List V} {kws : List (Str × V)} {f : Addr} {fd : FuncData} {N ps : List Str} {k : Nat} {sp : Sp} (F : FunD K x qual params body scope dvs kws f fd) (S : FnScope N ps scope) (len : ∀ vs H Q E, sp vs H Q E → vs.length = ps.length)
    (hbody : ∀ (cdv : Value) (A : Around) (outer : List Env) (s : Shared) (H : Hp) (vs : List V) (Q : VK) (E : XK), Room k (A.deeper (envOfC qual scope s.heap.objs.size f cdv)) → sp vs H Q E →
      ∃ t, PSs (cxOf (L2.CX P w) P w K mg base N qual scope f cdv A outer s H E) body t ∧ t { nx := fun _ H' => Q .non H', rt := Q } (start N vs) H) : FnOk P w K mg base (L2.CX P w) (k + 1) f fd ps sp := by
  obtain ⟨oc, od, dV, kV, doc, pm, an, cdv, ct, osl, rfl, lk, hcd, _, _⟩ := F.ex
  exact fn_of lk hcd S len fun A outer s H vs Q E hr hsp => hbody cdv A outer s H vs Q E hr hsp
/-- what a callee lets out goes on -/
theorem pass_on {P : Program} {w : World} {K : PySem.W.Frag} {mg : Str → Option Value} {base : Heap} {N : List Str} {qual : Str} {scope : Scope} {f : Addr} {cdv : Value} {A : Around} {outer : List Env} {s : Shared} {H : Hp} {E : XK} :
    Passes (L2.CX P w) (cxOf (L2.CX P w) P w K mg base N qual scope f cdv A outer s H E) E := L2.passes_call (X := cxOf (L2.CX P w) P w K mg base N qual scope f cdv A outer s H E) (W := fun cls d _ H => E cls d H) (takes_of rfl rfl rfl rfl) (fun _ _ _ _ h => h)
end L2
namespace K89
open PySem PySem.Spec PyProof.Rows L2 Vr BK Vd Vgi SlX Vc VZ VY VB
/-! ### trees as data, read back -/
theorem dat_tree {H : Hp} : ∀ {t : T} {v : V}, DatAt H v t.data → TreeAt H v t
  | .leaf x, v, h => by
    have h : DatAt H v (.str x) := h
    cases h
    rfl
  | .node l r, v, h => by
    have h : DatAt H v (.tuple [l.data, r.data]) := h
    cases h with
    | tup hp a =>
      cases a with
      | cons h1 a =>
        cases a with
        | cons h2 a =>
          cases a
          exact ⟨_, _, _, rfl, hp, dat_tree h1, dat_tree h2⟩
theorem isT_row : ∀ t : T, isT t.data = t.row.all goodB
  | .leaf x => by simp only [T.data, isT, T.row, List.all_cons, List.all_nil, Bool.and_true]
  | .node l r => by
    simp only [T.data, isT, isTAll, T.row, List.all_append, isT_row l, isT_row r, Bool.and_true]
    rfl
/-! ### sums over a table -/
def look (kt : List (List Key × V)) (a b : Str) : Option Str := match valV kt [.inr a, .inr b] with
  | some (.str x) => some x
  | _ => none
def sumO (kt : List (List Key × V)) (a b : Option Str) : Option Str := match a, b with
  | some x, some y => look kt x y
  | _, _ => none
def tval (kt : List (List Key × V)) : T → Option Str
  | .leaf x => some x
  | .node l r => sumO kt (tval kt l) (tval kt r)
def ClT (ns : List Str) (kt : List (List Key × V)) : Prop := ∀ a ∈ ns, ∀ b ∈ ns, (valV kt [.inr a, .inr b]).getD .non = optV (look kt a b) ∧ ∀ x, look kt a b = some x → x ∈ ns
theorem tval_in {ns : List Str} {kt : List (List Key × V)} (c : ClT ns kt) : ∀ {t : T}, (∀ y ∈ t.row, y ∈ ns) → ∀ x, tval kt t = some x → x ∈ ns
  | .leaf y, h, x, e => by
    cases (show some y = some x from e)
    exact h _ (List.mem_singleton.mpr rfl)
  | .node l r, h, x, e => by
    have e : sumO kt (tval kt l) (tval kt r) = some x := e
    cases el : tval kt l with
    | none =>
      rw [el] at e
      cases e
    | some a =>
      cases er : tval kt r with
      | none =>
        rw [el, er] at e
        cases e
      | some b =>
        rw [el, er] at e
        exact (c a (tval_in c (fun y hy => h y (List.mem_append_left _ hy)) a el) b (tval_in c (fun y hy => h y (List.mem_append_right _ hy)) b er)).2 x e
/-- what the parts give, from left to right; the last one first -/
def prun (kt : List (List Key × V)) : List (Option Str) → List (Option Str) → Option (List (Option Str))
  | st, [] => some st
  | st, some x :: r => prun kt (some x :: st) r
  | r :: l :: st, none :: w => prun kt (sumO kt l r :: st) w
  | _, none :: _ => none
theorem prun_post (kt : List (List Key × V)) : ∀ (t : T) (st w : List (Option Str)), prun kt st (t.post ++ w) = prun kt (tval kt t :: st) w
  | .leaf x, st, w => rfl
  | .node l r, st, w => by
    show prun kt st ((l.post ++ r.post ++ [none]) ++ w) = _
    rw [List.append_assoc, List.append_assoc, prun_post kt l, prun_post kt r]
    rfl
theorem prun_none {kt : List (List Key × V)} {st w : List (Option Str)} {z : List (Option Str)} (h : prun kt st (none :: w) = some z) : ∃ r l st', st = r :: l :: st' ∧ prun kt (sumO kt l r :: st') w = some z := by
  match st, h with
  | [], h => cases h
  | [_], h => cases h
  | r :: l :: st', h => exact ⟨r, l, st', rfl, h⟩
theorem all_rep (l : List Str) (ns : List Str) : ((l.map ns.contains).all id = true) ↔ ∀ x ∈ l, x ∈ ns := by
  rw [List.all_eq_true]
  constructor
  · intro h x hx
    exact List.contains_iff_mem.mp (h _ (List.mem_map.mpr ⟨x, hx, rfl⟩))
  · intro h b hb
    obtain ⟨x, hx, rfl⟩ := List.mem_map.mp hb
    exact List.contains_iff_mem.mpr (h x hx)
/-! ### table[left, right] -/
def spTgi (C : Addr) : Sp := fun vs H Q _ => ∃ (a t : Addr) (ns : List Str) (kvs : List (List Key × V)) (l r : Str), vs = [.ref a, .ref t] ∧ H t = some (.tup [.str l, .str r]) ∧ TblAt C H a ns kvs ∧ l ∈ ns ∧ r ∈ ns ∧ ∀ H', Same H H' → Q ((valV kvs [.inr l, .inr r]).getD .non) H'
abbrev sTgi : Stmt := sTbl 1
abbrev nTgi : List Str := ["self", "at", "left", "right"]
theorem scTgi : FnScope nTgi ["self", "at"] (defScope sTgi) := ⟨rfl, rfl, rfl, by decide +kernel, rfl, by decide +kernel, by decide +kernel⟩
section
variable {P : Program} {w : World} {K : PySem.W.Frag} {mg : Str → Option Value} {base : Heap} {CT fTI fSm fIt fLv fTc fCk fPs fGi CN fN : Addr} {fdSm fdIt fdLv fdTc fdCk fdPs fdGi : FuncData} {qN litN : Str}
theorem ok_tgi {f : Addr} {fd : FuncData} (F : Fun K "__getitem__" "Table.__getitem__" sTgi f fd) (TT : TbT K mg CT fTI) (GSm : FnOk P w K mg base CX0 1 fSm fdSm ["self", "left", "right"] (spTsm CT)) (bSm : Binds K fdSm ["self", "left", "right"] []) (hSm : Meth K CT "sum_of" fSm) : FnOk P w K mg base CX0 2 f fd ["self", "at"] (spTgi CT) := by
  refine F.ok scTgi (fun vs H Q E h => ?_) (fun cdv A outer s H vs Q E hr h => ?_)
  · obtain ⟨a, t, ns, kvs, l, r, rfl, _⟩ := h
    rfl
  · obtain ⟨a, t, ns, kvs, l, r, rfl, ht, htb, hl, hrr, k⟩ := h
    have r1 : Room 1 _ := hr
    refine ⟨_, (pss_cons (ps_asg (pv 1) (pg_tup rfl (pgs_cons (pg_name (i := 2) scTgi.nd rfl (Or.inl rfl)) (pgs_cons (pg_name (i := 3) scTgi.nd rfl (Or.inl rfl)) pgs_nil))))
      (pss_one (ps_ret (pe_meth (pv 0) TT.cl hSm GSm r1 bSm .nil pass0 (pa_cons (pv 2) (pa_cons (pv 3) pa_nil)))))), ?_⟩
    obtain ⟨dx, _, _, hI, _⟩ := id htb
    refine ⟨_, rfl, t, _, rfl, SqT.of ht, rfl, _, _, rfl, _, _, rfl, rfl, ?_⟩
    exact ⟨_, rfl, a, dx, _, rfl, hI, rfl, _, rfl, _, rfl, a, ns, kvs, l, r, rfl, htb, hl, hrr, k⟩
/-! ### _check_tree -/
end
def RefuseT (CN : Addr) (v : V) (H : Hp) (E : XK) : Prop := ∀ (H1 : Hp) (d : Addr), Same H H1 → H1 d = none → E (.ref CN) (some d) (upd H1 d (.xd [(Str.ofString "tree", v)]))
theorem RefuseT.same {CN : Addr} {v : V} {H H' : Hp} {E : XK} (h : RefuseT CN v H E) (s : Same H H') : RefuseT CN v H' E := fun H1 d k n => h H1 d (s.trans k) n
theorem flat_st : ∀ ys : List Str, (ys.map V.str).all flatV = true
  | [] => rfl
  | y :: ys => by
    rw [List.map_cons, List.all_cons, flat_st ys]
    rfl
/-- no tree over these names -/
def badT (ns : List Str) (d : PyData) : Prop := isT d = false ∨ ∃ t : T, d = t.data ∧ t.row.all goodB = true ∧ t.size ≤ 50000 ∧ ∃ x ∈ t.row, x ∉ ns
def spChk : Sp := fun vs H Q _ => ∃ (v : V) (t : T) (cl : Addr) (ns : List Str), vs = [v, .ref cl] ∧ TreeAt H v t ∧ ok t.data = true ∧ nd t.data ≤ 1000000 ∧ t.row.all goodB = true ∧ t.size ≤ 50000 ∧ (∀ x ∈ t.row, x ∈ ns) ∧ H cl = some (.lst (ns.map V.str)) ∧ ∀ H', Same H H' → Q .non H'
def spChkX (CN : Addr) : Sp := fun vs H _ E => ∃ (v : V) (d : PyData) (cl : Addr) (ns : List Str), vs = [v, .ref cl] ∧ DatAt H v d ∧ ok d = true ∧ nd d ≤ 1000000 ∧ badT ns d ∧ H cl = some (.lst (ns.map V.str)) ∧ RefuseT CN v H E
abbrev sChk : Stmt := top 18
abbrev nChk : List Str := ["tree", "classes", "name"]
theorem scChk : FnScope nChk ["tree", "classes"] (defScope sChk) := ⟨rfl, rfl, rfl, by decide +kernel, rfl, by decide +kernel, by decide +kernel⟩
section
variable {P : Program} {w : World} {K : PySem.W.Frag} {mg : Str → Option Value} {base : Heap} {CT fTI fSm fIt fLv fTc fCk fPs fGi CN fN : Addr} {fdSm fdIt fdLv fdTc fdCk fdPs fdGi : FuncData} {qN litN : Str}
theorem ok_chk {f : Addr} {fd : FuncData} (F : Fun K "_check_tree" "_check_tree" sChk f fd) (GIt : FnOk P w K mg base CX0 2 fIt fdIt ["value"] spIsTree) (bIt : Binds K fdIt ["value"] []) (mIt : mg "is_tree" = some (.ref fIt)) (kIt : PySem.W.keepIn K (.ref fIt) = true)
    (GLv : FnOk P w K mg base CX0 2 fLv fdLv ["tree"] spLeaves) (bLv : Binds K fdLv ["tree"] []) (mLv : mg "leaves" = some (.ref fLv)) (kLv : PySem.W.keepIn K (.ref fLv) = true) (gAll : mg "all" = none) : FnOk P w K mg base CX0 3 f fd ["tree", "classes"] spChk := by
  refine F.ok scChk (fun vs H Q E h => ?_) (fun cdv A outer s H vs Q E hr h => ?_)
  · obtain ⟨v, t, cl, ns, rfl, _⟩ := h
    rfl
  · obtain ⟨v, t, cl, ns, rfl, ht, hok, hnd, ag, sz, mem, hcl, k⟩ := h
    have r2 : Room 2 _ := hr
    have rl := t.row_le
    refine ⟨_, (pss_one (ps_if (PW.pt (pw_or (pt_not (pt_val (pe_call GIt r2 (by rfl) mIt kIt bIt .nil pass0 (pa_cons (pv 0) pa_nil)))) (pw_or1 (pt_not (pt_val (pe_callB (cr_all rfl) (by rfl) gAll (by decide +kernel) (pa_cons (pe_lc (own := [("name", 2)]) (g := gName 2) (te := tOp (rIn K false) (tVar 2) (tVar 1)) (tt := tYes) rfl scChk.nd (pi_tup (pe_call GLv r2 (by rfl) mLv kLv bLv .nil pass0 (pa_cons (pv 0) pa_nil))) (blkOk_by (N := nChk) (sc := defScope sChk) (by decide +kernel)) (fun _ _ _ _ _ => pg_name (i := 2) scChk.nd rfl (Or.inl rfl)) (fun _ _ _ _ _ => pts_nil) (fun _ _ _ _ _ => (pe_cmpR op_in_seq (pv 2) (pv 1) (by rfl)))) pa_nil))))))) (pss_one ps_never) pss_nil)), ?_⟩
    refine ⟨_, rfl, v, t.data, rfl, ht.dat, hok, hnd, fun H1 s1 => ⟨_, rfl, ?_⟩⟩
    rw [isT_row, ag]
    refine iteF ?_
    refine ⟨_, rfl, v, t, rfl, ht.same s1, by omega, fun p H2 np hp s2 => ?_⟩
    have s12 := s1.trans s2
    refine ⟨p, rfl, ⟨_, SqT.of hp⟩, fun D hD => ?_⟩
    refine lc_tup (xs := t.row.map V.str) (fun i H' => Same H2 H' ∧ H' D = some (.lst (((t.row.take i).map ns.contains).map V.bl))) ⟨Same.new hD, upd_same⟩ (fun i H' _ h => SqT.of (h.1 _ _ hp)) ?_ ?_
    · rintro i y H3 hy ⟨s3, g3⟩
      rw [List.getElem?_map] at hy
      cases hi : t.row[i]? with
      | none =>
        rw [hi] at hy
        cases hy
      | some x =>
      rw [hi] at hy
      cases hy
      have il := (List.getElem?_eq_some_iff.mp hi).1
      refine ⟨rfl, _, rfl, _, rfl, cl, _, rfl, Or.inl (SqL.of ((s12.trans s3) _ _ hcl)), rfl, flat_st ns, _, g3, ?_, fun c o e' => ?_, ?_⟩
      · rw [List.length_map, List.length_map, List.length_take]
        exact smallM (by omega)
      · rw [upd_ne (ne_of_none e' hD)]
        exact s3 _ _ e'
      · rw [upd_same, List.take_add_one, hi, inV_st, List.map_append, List.map_append]
        rfl
    rintro H3 ⟨s3, g3⟩
    rw [List.length_map, List.take_length] at g3
    have s13 := s12.trans s3
    refine ⟨D, _, rfl, SqL.of g3, _, rfl, ?_⟩
    rw [(all_rep _ _).mpr mem]
    refine iteF ?_
    exact k _ s13
theorem ok_chkX {f : Addr} {fd : FuncData} (F : Fun K "_check_tree" "_check_tree" sChk f fd) (GIt : FnOk P w K mg base CX0 2 fIt fdIt ["value"] spIsTree) (bIt : Binds K fdIt ["value"] []) (mIt : mg "is_tree" = some (.ref fIt)) (kIt : PySem.W.keepIn K (.ref fIt) = true)
    (GLv : FnOk P w K mg base CX0 2 fLv fdLv ["tree"] spLeaves) (bLv : Binds K fdLv ["tree"] []) (mLv : mg "leaves" = some (.ref fLv)) (kLv : PySem.W.keepIn K (.ref fLv) = true) (gAll : mg "all" = none)
    (N : TxtF P K mg CN fN qN (Str.ofString "tree") litN "ValueError" "ValueError.__init__" "ValueError.__new__" veT) (mN : mg "NoTree" = some (.ref CN)) : FnOk P w K mg base (L2.CX P w) 3 f fd ["tree", "classes"] (spChkX CN) := by
  refine F.okX scChk (fun vs H Q E h => ?_) (fun cdv A outer s H vs Q E hr h => ?_)
  · obtain ⟨v, d, cl, ns, rfl, _⟩ := h
    rfl
  · obtain ⟨v, d, cl, ns, rfl, hd, hok, hnd, bad, hcl, no⟩ := h
    have r2 : Room 2 _ := hr
    refine ⟨_, (pss_one (ps_if (PW.pt (pw_or (pt_not (pt_val (pe_call GIt r2 (by rfl) mIt kIt bIt .nil pass0 (pa_cons (pv 0) pa_nil)))) (pw_or1 (pt_not (pt_val (pe_callB (cr_all rfl) (by rfl) gAll (by decide +kernel) (pa_cons (pe_lc (own := [("name", 2)]) (g := gName 2) (te := tOp (rIn K false) (tVar 2) (tVar 1)) (tt := tYes) rfl scChk.nd (pi_tup (pe_call GLv r2 (by rfl) mLv kLv bLv .nil pass0 (pa_cons (pv 0) pa_nil))) (blkOk_by (N := nChk) (sc := defScope sChk) (by decide +kernel)) (fun _ _ _ _ _ => pg_name (i := 2) scChk.nd rfl (Or.inl rfl)) (fun _ _ _ _ _ => pts_nil) (fun _ _ _ _ _ => (pe_cmpR op_in_seq (pv 2) (pv 1) (by rfl)))) pa_nil))))))) (pss_one (ps_raise rfl (takes_of rfl rfl rfl rfl) (pmk_f N bVE mN (hr.mono (Nat.zero_le _) : Room 0 _) (pa_cons (pv 0) pa_nil) rfl))) pss_nil)), ?_⟩
    refine ⟨_, rfl, v, d, rfl, hd, hok, hnd, fun H1 s1 => ⟨_, rfl, ?_⟩⟩
    rcases bad with bad | ⟨t, rfl, ag, sz, x0, hx0, nx0⟩
    · rw [bad]
      refine iteT ?_
      refine iteT ?_
      exact ⟨_, rfl, _, rfl, fun e he => no _ e s1 he⟩
    have ht := dat_tree hd
    have rl := t.row_le
    rw [isT_row, ag]
    refine iteF ?_
    refine ⟨_, rfl, v, t, rfl, ht.same s1, by omega, fun p H2 np hp s2 => ?_⟩
    have s12 := s1.trans s2
    refine ⟨p, rfl, ⟨_, SqT.of hp⟩, fun D hD => ?_⟩
    refine lc_tup (xs := t.row.map V.str) (fun i H' => Same H2 H' ∧ H' D = some (.lst (((t.row.take i).map ns.contains).map V.bl))) ⟨Same.new hD, upd_same⟩ (fun i H' _ h => SqT.of (h.1 _ _ hp)) ?_ ?_
    · rintro i y H3 hy ⟨s3, g3⟩
      rw [List.getElem?_map] at hy
      cases hi : t.row[i]? with
      | none =>
        rw [hi] at hy
        cases hy
      | some x =>
      rw [hi] at hy
      cases hy
      have il := (List.getElem?_eq_some_iff.mp hi).1
      refine ⟨rfl, _, rfl, _, rfl, cl, _, rfl, Or.inl (SqL.of ((s12.trans s3) _ _ hcl)), rfl, flat_st ns, _, g3, ?_, fun c o e' => ?_, ?_⟩
      · rw [List.length_map, List.length_map, List.length_take]
        exact smallM (by omega)
      · rw [upd_ne (ne_of_none e' hD)]
        exact s3 _ _ e'
      · rw [upd_same, List.take_add_one, hi, inV_st, List.map_append, List.map_append]
        rfl
    rintro H3 ⟨s3, g3⟩
    rw [List.length_map, List.take_length] at g3
    have s13 := s12.trans s3
    refine ⟨D, _, rfl, SqL.of g3, _, rfl, ?_⟩
    have al : (t.row.map ns.contains).all id = false := by
      cases z : (t.row.map ns.contains).all id with
      | false => rfl
      | true => exact absurd ((all_rep _ _).mp z x0 hx0) nx0
    rw [al]
    refine iteT ?_
    exact ⟨_, rfl, _, rfl, fun e he => no _ e s13 he⟩
end
/-! ### outcome_of -/
theorem mem_someS : ∀ {l : List (Option Str)} {z : Str}, some z ∈ l → z ∈ someS l
  | none :: r, z, h => by
    rcases List.mem_cons.mp h with h | h
    · cases h
    · show z ∈ someS r
      exact mem_someS h
  | some y :: r, z, h => by
    rcases List.mem_cons.mp h with h | h
    · cases h
      exact List.mem_cons_self
    · exact List.mem_cons_of_mem _ (mem_someS h)
def spSmd (CT : Addr) : Sp := fun vs H Q _ => ∃ (x : Addr) (v : V) (t : T) (ns : List Str) (kt : List (List Key × V)), vs = [.ref x, v] ∧ TblAt CT H x ns kt ∧ ClT ns kt ∧ TreeAt H v t ∧ t.size ≤ 50000 ∧ (∀ y ∈ t.row, y ∈ ns) ∧
  ∀ (tp mp : Addr) (H' : Hp), Same H H' → H' tp = some (.tup [optV (tval kt t), .ref mp]) → Q (.ref tp) H'
def spOof (CT : Addr) : Sp := fun vs H Q _ => ∃ (x : Addr) (v : V) (t : T) (ns : List Str) (kt : List (List Key × V)), vs = [.ref x, v] ∧ TblAt CT H x ns kt ∧ ClT ns kt ∧ TreeAt H v t ∧ ok t.data = true ∧ nd t.data ≤ 1000000 ∧ t.row.all goodB = true ∧ t.size ≤ 50000 ∧ (∀ y ∈ t.row, y ∈ ns) ∧ ∀ H', Same H H' → Q (optV (tval kt t)) H'
def spOofX (CT CN : Addr) : Sp := fun vs H _ E => ∃ (x : Addr) (v : V) (d : PyData) (ns : List Str) (kt : List (List Key × V)), vs = [.ref x, v] ∧ TblAt CT H x ns kt ∧ DatAt H v d ∧ ok d = true ∧ nd d ≤ 1000000 ∧ badT ns d ∧ RefuseT CN v H E
theorem oV_optV : ∀ o, oV o = optV o
  | none => rfl
  | some _ => rfl
abbrev sOof : Stmt := top 19
abbrev nOof : List Str := ["table", "tree"]
theorem scOof : FnScope nOof ["table", "tree"] (defScope sOof) := ⟨rfl, rfl, rfl, by decide +kernel, rfl, by decide +kernel, by decide +kernel⟩
abbrev sSmd : Stmt := top 20
abbrev nSmd : List Str := ["table", "tree", "done", "made", "name", "right", "left"]
theorem scSmd : FnScope nSmd ["table", "tree"] (defScope sSmd) := ⟨rfl, rfl, rfl, by decide +kernel, rfl, by decide +kernel, by decide +kernel⟩
section
variable {P : Program} {w : World} {K : PySem.W.Frag} {mg : Str → Option Value} {base : Heap} {CT fTI fSm fIt fLv fTc fCk fPs fGi CN fN fMd : Addr} {fdSm fdIt fdLv fdTc fdCk fdPs fdGi fdMd : FuncData} {qN litN : Str}
theorem ok_oofX {f : Addr} {fd : FuncData} (F : Fun K "outcome_of" "outcome_of" sOof f fd) (TT : TbT K mg CT fTI) (GTc : FnOk P w K mg base CX0 1 fTc fdTc ["self"] (spTcl CT)) (bTc : Binds K fdTc ["self"] []) (hTc : Meth K CT "classes" fTc)
    (GMd : FnOk P w K mg base CX0 4 fMd fdMd ["table", "tree"] (spSmd CT)) (bMd : Binds K fdMd ["table", "tree"] []) (mMd : mg "sums_made" = some (.ref fMd)) (kMd : PySem.W.keepIn K (.ref fMd) = true)
    (GCk : FnOk P w K mg base (L2.CX P w) 3 fCk fdCk ["tree", "classes"] (spChkX CN)) (bCk : Binds K fdCk ["tree", "classes"] []) (mCk : mg "_check_tree" = some (.ref fCk)) (kCk : PySem.W.keepIn K (.ref fCk) = true) : FnOk P w K mg base (L2.CX P w) 5 f fd ["table", "tree"] (spOofX CT CN) := by
  refine F.okX scOof (fun vs H Q E h => ?_) (fun cdv A outer s H vs Q E hr h => ?_)
  · obtain ⟨x, v, d, ns, kt, rfl, _⟩ := h
    rfl
  · obtain ⟨x, v, d, ns, kt, rfl, htb, hd, hok, hnd, bad, no⟩ := h
    have r1 : Room 1 _ := hr.mono (by decide)
    have r3 : Room 3 _ := hr.mono (by decide)
    have r4 : Room 4 _ := hr
    refine ⟨_, (pss_cons (ps_expr (pe_call GCk r3 (by rfl) mCk kCk bCk .nil pass_on (pa_cons (pv 1) (pa_cons (pe_meth0 (pv 0) TT.cl hTc GTc r1 bTc .nil pass0) pa_nil))))
      (pss_one (ps_ret (pe_ix ix_tup (pe_call GMd r4 (by rfl) mMd kMd bMd .nil pass0 (pa_cons (pv 0) (pa_cons (pv 1) pa_nil))) pe_int (fun _ _ => rfl))))), ?_⟩
    obtain ⟨dx, _, _, hI, _⟩ := id htb
    exact ⟨_, rfl, _, rfl, x, dx, _, rfl, hI, rfl, x, ns, kt, rfl, htb, fun p H1 s1 np hp => ⟨v, d, p, ns, rfl, hd.same s1, hok, hnd, bad, hp, no.same s1⟩⟩
theorem ok_oof {f : Addr} {fd : FuncData} (F : Fun K "outcome_of" "outcome_of" sOof f fd) (TT : TbT K mg CT fTI) (GTc : FnOk P w K mg base CX0 1 fTc fdTc ["self"] (spTcl CT)) (bTc : Binds K fdTc ["self"] []) (hTc : Meth K CT "classes" fTc)
    (GMd : FnOk P w K mg base CX0 4 fMd fdMd ["table", "tree"] (spSmd CT)) (bMd : Binds K fdMd ["table", "tree"] []) (mMd : mg "sums_made" = some (.ref fMd)) (kMd : PySem.W.keepIn K (.ref fMd) = true)
    (GCk : FnOk P w K mg base CX0 3 fCk fdCk ["tree", "classes"] spChk) (bCk : Binds K fdCk ["tree", "classes"] []) (mCk : mg "_check_tree" = some (.ref fCk)) (kCk : PySem.W.keepIn K (.ref fCk) = true) : FnOk P w K mg base CX0 5 f fd ["table", "tree"] (spOof CT) := by
  refine F.ok scOof (fun vs H Q E h => ?_) (fun cdv A outer s H vs Q E hr h => ?_)
  · obtain ⟨x, v, t, ns, kt, rfl, _⟩ := h
    rfl
  · obtain ⟨x, v, t, ns, kt, rfl, htb, cl, ht, hok, hnd, ag, sz, mem, k⟩ := h
    have r1 : Room 1 _ := hr.mono (by decide)
    have r3 : Room 3 _ := hr.mono (by decide)
    have r4 : Room 4 _ := hr
    refine ⟨_, (pss_cons (ps_expr (pe_call GCk r3 (by rfl) mCk kCk bCk .nil pass0 (pa_cons (pv 1) (pa_cons (pe_meth0 (pv 0) TT.cl hTc GTc r1 bTc .nil pass0) pa_nil))))
      (pss_one (ps_ret (pe_ix ix_tup (pe_call GMd r4 (by rfl) mMd kMd bMd .nil pass0 (pa_cons (pv 0) (pa_cons (pv 1) pa_nil))) pe_int (fun _ _ => rfl))))), ?_⟩
    obtain ⟨dx, _, _, hI, _⟩ := id htb
    refine ⟨_, rfl, _, rfl, x, dx, _, rfl, hI, rfl, x, ns, kt, rfl, htb, fun p H1 s1 np hp => ⟨v, t, p, ns, rfl, ht.same s1, hok, hnd, ag, sz, mem, hp, fun H2 s2 => ?_⟩⟩
    have s02 := s1.trans s2
    refine ⟨_, rfl, _, rfl, x, v, t, ns, kt, rfl, htb.same s02, cl, ht.same s02, sz, mem, fun tp mp H3 s3 htp => ?_⟩
    exact ⟨tp, _, _, _, rfl, rfl, SqT.of htp, (show atI [optV (tval kt t), .ref mp] ((0 : Nat) : Int) = some (optV (tval kt t)) from atI_nat rfl), k _ (s02.trans s3)⟩
theorem ok_smd {f : Addr} {fd : FuncData} (F : Fun K "sums_made" "sums_made" sSmd f fd) (TT : TbT K mg CT fTI) (GPs : FnOk P w K mg base CX0 1 fPs fdPs ["tree"] spPost) (bPs : Binds K fdPs ["tree"] []) (mPs : mg "in_postfix" = some (.ref fPs)) (kPs : PySem.W.keepIn K (.ref fPs) = true)
    (GGi : FnOk P w K mg base CX0 2 fGi fdGi ["self", "at"] (spTgi CT)) (bGi : Binds K fdGi ["self", "at"] []) (hGi : PySem.W.findIn K (.ref CT) "__getitem__" = some (some (.ref fGi))) (fGi1 : PySem.W.fnIn K fGi = true) (fGi2 : PySem.W.isFn K (.ref fGi) = true) : FnOk P w K mg base CX0 4 f fd ["table", "tree"] (spSmd CT) := by
  refine F.ok scSmd (fun vs H Q E h => ?_) (fun cdv A outer s H vs Q E hr h => ?_)
  · obtain ⟨x, v, t, ns, kt, rfl, _⟩ := h
    rfl
  · obtain ⟨x, v, t, ns, kt, rfl, htb, cl, ht, sz, mem, k⟩ := h
    have r1 : Room 1 _ := hr.mono (by decide)
    have r3 : Room 3 _ := hr
    have hu1 : (A.deeper (envOfC (Str.ofString "sums_made") (defScope sSmd) s.heap.objs.size f cdv)).units + 1 < cLine := by have := hr.un; omega
    refine ⟨_, (pss_cons (ps_set (i := 2) scSmd.nd rfl (Or.inl rfl) (pe_lst pa_nil))
      (pss_cons (ps_set (i := 3) scSmd.nd rfl (Or.inl rfl) pe_dnewT)
      (pss_cons (ps_for PassesOwn.never rfl (pi_list (pe_call GPs r1 (by rfl) mPs kPs bPs .nil pass0 (pa_cons (pv 1) pa_nil))) (pg_name (i := 4) scSmd.nd rfl (Or.inl rfl)) (pss_one (ps_if (pt_cmpR op_isN (pv 4) pe_non (nomark _)) (pss_cons (ps_set (i := 5) scSmd.nd rfl (Or.inl rfl) (pe_bm0 PySem.F.plainAttrs_list PySem.F.slot_list_pop PySem.F.type_list_pop mt_pop (pv 2)))
      (pss_cons (ps_set (i := 6) scSmd.nd rfl (Or.inl rfl) (pe_bm0 PySem.F.plainAttrs_list PySem.F.slot_list_pop PySem.F.type_list_pop mt_pop (pv 2)))
      (pss_one (ps_if (PW.pt (pw_or (pt_cmpR op_isN (pv 6) pe_non (nomark _)) (pw_or1 (pt_cmpR op_isN (pv 5) pe_non (nomark _))))) (pss_one (ps_expr (pe_bm PySem.F.plainAttrs_list PySem.F.slot_list_append PySem.F.type_list_append mt_append (pv 2) (pa_cons pe_non pa_nil)))) (pss_cons (ps_asg (pe_ixI hGi fGi1 fGi2 (FnOk.raw GGi bGi .nil) r3 pass0 (pv 0) (pe_tup (pa_cons (pv 6) (pa_cons (pv 5) pa_nil)))) (pg_sub (pv 3) (pe_tup (pa_cons (pv 6) (pa_cons (pv 5) pa_nil))) (set_dict hu1)))
      (pss_one (ps_expr (pe_bm PySem.F.plainAttrs_list PySem.F.slot_list_append PySem.F.type_list_append mt_append (pv 2) (pa_cons (pe_dget hu1 (pv 3) (pe_tup (pa_cons (pv 6) (pa_cons (pv 5) pa_nil))) (fun _ _ => rfl)) pa_nil))))))))) (pss_one (ps_expr (pe_bm PySem.F.plainAttrs_list PySem.F.slot_list_append PySem.F.type_list_append mt_append (pv 2) (pa_cons (pv 4) pa_nil)))))))
      (pss_one (ps_ret (pe_tup (pa_cons (pe_ix ix_list (pv 2) pe_int (fun _ _ => rfl)) (pa_cons (pv 3) pa_nil)))))))), ?_⟩
    obtain ⟨dx, _, _, hI, _⟩ := id htb
    refine ⟨(by show 0 ≤ sizeLine; decide), fun D nD => ?_⟩
    have s2 := Same.new (o := .lst []) nD
    have gD := upd_same (H := H) (a := D) (o := .lst [])
    have nDH := nD
    generalize upd H D (.lst []) = H2 at *
    refine fun M nM => ?_
    have s3 := s2.trans (Same.new (o := .dT []) nM)
    have gM := upd_same (H := H2) (a := M) (o := .dT [])
    have gD := Same.new (o := .dT []) nM _ _ gD
    have nMH : H M = none := s2.free nM
    generalize upd H2 M (.dT []) = H3 at *
    have DM : D ≠ M := ne_of gD gM (by intro z; cases z)
    refine ⟨_, rfl, v, t, rfl, ht.same s3, by omega, fun q H4 nq hq s4 => ?_⟩
    have lp : t.post.length ≤ 100000 := by
      have := t.post_len
      have := t.pz_size
      omega
    refine ⟨q, rfl, ⟨_, SqL.of hq⟩, ?_⟩
    have qD : q ≠ D := (ne_of_none gD nq).symm
    have qM : q ≠ M := (ne_of_none gM nq).symm
    refine for_list (xs := t.post.map oV) (fun i σ H' => ∃ (st : List (Option Str)) (mk : List (List Key × V)), (∃ o3 o4 o5, σ = [some (.ref x), some v, some (.ref D), some (.ref M), o3, o4, o5]) ∧ st.length ≤ i ∧ prun kt st (t.post.drop i) = some [tval kt t] ∧ (∀ o ∈ st, ∀ y, o = some y → y ∈ ns) ∧ H' D = some (.lst (st.reverse.map optV)) ∧ H' q = some (.lst (t.post.map oV)) ∧ Same H H' ∧ H' M = some (.dT mk) ∧ mk.length ≤ i)
      ⟨[], [], ⟨none, none, none, rfl⟩, Nat.le_refl _, ?_, (fun o ho => by cases ho), s4 _ _ gD, hq, s3.trans s4, s4 _ _ gM, Nat.le_refl _⟩ (fun i σ H' _ h => by obtain ⟨_, _, _, _, _, _, _, h, _⟩ := h; exact SqL.of h) ?_ ?_
    · have := prun_post kt t [] []
      rw [List.append_nil] at this
      exact this
    · rintro i y σ H5 hy ⟨st, mk, ⟨o3, o4, o5, rfl⟩, ls, run, cls, hD, hq5, s5, hM, lm⟩
      rw [List.getElem?_map] at hy
      cases hi : t.post[i]? with
      | none =>
        rw [hi] at hy
        cases hy
      | some o =>
      rw [hi] at hy
      cases hy
      have il := (List.getElem?_eq_some_iff.mp hi).1
      have dr : t.post.drop i = o :: t.post.drop (i + 1) := by
        rw [List.drop_eq_getElem_cons il, (List.getElem?_eq_some_iff.mp hi).2]
      rw [dr] at run
      cases o with
      | some z =>
        refine ⟨_, rfl, rfl, _, rfl, ?_⟩
        refine iteF ?_
        have zin : z ∈ ns := by
          have h1 : z ∈ someS t.post := mem_someS (List.mem_of_getElem? hi)
          rw [t.post_row] at h1
          exact mem z h1
        refine ⟨_, rfl, Or.inl ⟨rfl, _, SqL.of hD⟩, _, rfl, D, _, _, rfl, rfl, hD, smallM (by rw [List.length_map, List.length_reverse]; omega), ?_⟩
        refine ⟨some z :: st, mk, ⟨_, _, _, rfl⟩, Nat.succ_le_succ ls, run, fun o ho y hy => ?_, ?_, ?_, Same.newer nDH s5, ?_, Nat.le_succ_of_le lm⟩
        · rcases List.mem_cons.mp ho with rfl | ho
          · cases hy
            exact zin
          · exact cls o ho y hy
        · rw [upd_same, List.reverse_cons, List.map_append]
          rfl
        · rw [upd_ne qD]
          exact hq5
        · rw [upd_ne DM.symm]
          exact hM
      | none =>
        refine ⟨_, rfl, rfl, _, rfl, ?_⟩
        refine iteT ?_
        obtain ⟨r, l, st', rfl, run'⟩ := prun_none run
        rw [List.length_cons, List.length_cons] at ls
        rw [List.reverse_cons, List.reverse_cons, List.map_append, List.map_append] at hD
        have hD : H5 D = some (.lst ((st'.reverse.map optV ++ [optV l]) ++ [optV r])) := hD
        refine ⟨_, rfl, Or.inl ⟨rfl, _, SqL.of hD⟩, D, _, optV r, rfl, rfl, hD, by simp, ?_⟩
        rw [List.dropLast_concat]
        have hD6 : (upd H5 D (.lst (st'.reverse.map optV ++ [optV l]))) D = some (.lst (st'.reverse.map optV ++ [optV l])) := upd_same
        refine ⟨_, rfl, Or.inl ⟨rfl, _, SqL.of hD6⟩, D, _, optV l, rfl, rfl, hD6, by simp, ?_⟩
        rw [List.dropLast_concat]
        obtain ⟨H7, e7⟩ : ∃ H7, upd (upd H5 D (.lst (st'.reverse.map optV ++ [optV l]))) D (.lst (st'.reverse.map optV)) = H7 := ⟨_, rfl⟩
        have hD7 : H7 D = some (.lst (st'.reverse.map optV)) := by rw [← e7, upd_same]
        have hq7 : H7 q = some (.lst (t.post.map oV)) := by rw [← e7, upd_ne qD, upd_ne qD]; exact hq5
        have hM7 : H7 M = some (.dT mk) := by rw [← e7, upd_ne DM.symm, upd_ne DM.symm]; exact hM
        have s7 : Same H H7 := by rw [← e7]; exact Same.newer nDH (Same.newer nDH s5)
        rw [e7]
        clear e7 hD6
        have fin : ∀ (H8 : Hp) (mk' : List (List Key × V)), Same H H8 → H8 D = some (.lst (st'.reverse.map optV)) → H8 q = some (.lst (t.post.map oV)) → H8 M = some (.dT mk') → mk'.length ≤ i + 1 → ∃ (l0 : Addr) (xs : List V) (b0 : V), (V.ref D) = .ref l0 ∧ [optV (sumO kt l r)] = [b0] ∧ H8 l0 = some (.lst xs) ∧ xs.length < sizeLine ∧ ∃ (st : List (Option Str)) (mk : List (List Key × V)), (∃ o3 o4 o5, [some (V.ref x), some v, some (.ref D), some (.ref M), some (oV none), some (optV r), some (optV l)] = [some (.ref x), some v, some (.ref D), some (.ref M), o3, o4, o5]) ∧ st.length ≤ i + 1 ∧ prun kt st (t.post.drop (i + 1)) = some [tval kt t] ∧ (∀ o ∈ st, ∀ y, o = some y → y ∈ ns) ∧ (upd H8 l0 (.lst (xs ++ [b0]))) D = some (.lst (st.reverse.map optV)) ∧ (upd H8 l0 (.lst (xs ++ [b0]))) q = some (.lst (t.post.map oV)) ∧ Same H (upd H8 l0 (.lst (xs ++ [b0]))) ∧ (upd H8 l0 (.lst (xs ++ [b0]))) M = some (.dT mk) ∧ mk.length ≤ i + 1 := fun H8 mk' s8 gD8 gq8 gM8 lm8 => by
          refine ⟨D, _, _, rfl, rfl, gD8, smallM (by rw [List.length_map, List.length_reverse]; omega), sumO kt l r :: st', mk', ⟨_, _, _, rfl⟩, by rw [List.length_cons]; omega, run', fun o ho y hy => ?_, ?_, ?_, Same.newer nDH s8, ?_, lm8⟩
          · rcases List.mem_cons.mp ho with rfl | ho
            · cases l with
              | none => cases hy
              | some a =>
                cases r with
                | none => cases hy
                | some b => exact (cl a (cls _ (List.mem_cons_of_mem _ List.mem_cons_self) a rfl) b (cls _ List.mem_cons_self b rfl)).2 y hy
            · exact cls o (List.mem_cons_of_mem _ (List.mem_cons_of_mem _ ho)) y hy
          · rw [upd_same, List.reverse_cons, List.map_append]
            rfl
          · rw [upd_ne qD]
            exact gq8
          · rw [upd_ne DM.symm]
            exact gM8
        refine ⟨_, rfl, rfl, _, rfl, ?_⟩
        cases l with
        | none =>
          refine iteT ?_
          refine iteT ?_
          exact ⟨_, rfl, Or.inl ⟨rfl, _, SqL.of hD7⟩, fin H7 mk s7 hD7 hq7 hM7 (Nat.le_succ_of_le lm)⟩
        | some a =>
          refine iteF ?_
          refine ⟨_, rfl, rfl, _, rfl, ?_⟩
          cases r with
          | none =>
            refine iteT ?_
            exact ⟨_, rfl, Or.inl ⟨rfl, _, SqL.of hD7⟩, fin H7 mk s7 hD7 hq7 hM7 (Nat.le_succ_of_le lm)⟩
          | some b =>
            refine iteF ?_
            have ma := cls _ (List.mem_cons_of_mem _ List.mem_cons_self) a rfl
            have mb := cls _ List.mem_cons_self b rfl
            refine ⟨_, rfl, _, rfl, _, rfl, (by show 2 ≤ sizeLine; decide), fun tt ntt => ?_⟩
            have s8 := Same.new (o := .tup [V.str a, .str b]) ntt
            have g8 := upd_same (H := H7) (a := tt) (o := .tup [V.str a, .str b])
            have s08 := s7.trans s8
            refine ⟨x, dx, _, rfl, s08 _ _ hI, x, tt, ns, kt, a, b, rfl, g8, htb.same s08, ma, mb, fun H9 s9 => ?_⟩
            rw [(cl a ma b mb).1]
            have s79 := s8.trans s9
            have s09 := s7.trans s79
            clear s8 g8 s08 s9
            refine ⟨_, rfl, _, rfl, _, rfl, (by show 2 ≤ sizeLine; decide), fun t2 nt2 => ?_⟩
            have sA := Same.new (o := .tup [optV (some a), optV (some b)]) nt2
            have gA := upd_same (H := H9) (a := t2) (o := .tup [optV (some a), optV (some b)])
            generalize upd H9 t2 (.tup [optV (some a), optV (some b)]) = HA at *
            have gA : HA t2 = some (.tup [V.str a, .str b]) := gA
            have hMA := sA _ _ (s79 _ _ hM7)
            refine ⟨M, _, rfl, DPut.t (k := [.inr a, .inr b]) hMA gA (smallM (by omega)), ?_⟩
            have lmB : (putK mk [.inr a, .inr b] (optV (look kt a b))).length ≤ i + 1 := by
              have := length_putK mk [.inr a, .inr b] (optV (look kt a b))
              omega
            have hDB : (upd HA M (.dT (putK mk [.inr a, .inr b] (optV (look kt a b))))) D = some (.lst (st'.reverse.map optV)) := by
              rw [upd_ne DM]
              exact sA _ _ (s79 _ _ hD7)
            have hqB : (upd HA M (.dT (putK mk [.inr a, .inr b] (optV (look kt a b))))) q = some (.lst (t.post.map oV)) := by
              rw [upd_ne qM]
              exact sA _ _ (s79 _ _ hq7)
            have hMB := upd_same (H := HA) (a := M) (o := .dT (putK mk [.inr a, .inr b] (optV (look kt a b))))
            have sB : Same H (upd HA M (.dT (putK mk [.inr a, .inr b] (optV (look kt a b))))) := Same.newer nMH (s09.trans sA)
            generalize upd HA M (.dT (putK mk [.inr a, .inr b] (optV (look kt a b)))) = HB at *
            refine ⟨_, rfl, Or.inl ⟨rfl, _, SqL.of hDB⟩, ?_⟩
            refine ⟨_, rfl, _, rfl, _, rfl, (by show 2 ≤ sizeLine; decide), fun t3 nt3 => ?_⟩
            have sC := Same.new (o := .tup [optV (some a), optV (some b)]) nt3
            have gC := upd_same (H := HB) (a := t3) (o := .tup [optV (some a), optV (some b)])
            generalize upd HB t3 (.tup [optV (some a), optV (some b)]) = HC at *
            have gC : HC t3 = some (.tup [V.str a, .str b]) := gC
            have gt := DGet.t (k := [.inr a, .inr b]) (sC _ _ hMB) gC
            rw [valV_put, if_pos rfl] at gt
            refine ⟨M, _, rfl, gt, ?_⟩
            exact fin HC _ (sB.trans sC) (sC _ _ hDB) (sC _ _ hqB) (sC _ _ hMB) lmB
    · rintro σ H5 ⟨st, mk, ⟨o3, o4, o5, rfl⟩, ls, run, cls, hD, hq5, s5, hM, lm⟩
      rw [List.length_map, List.drop_length] at run
      cases (show some st = some [tval kt t] from run)
      refine ⟨_, rfl, D, _, _, _, rfl, rfl, SqL.of hD, (show atI [optV (tval kt t)] ((0 : Nat) : Int) = some (optV (tval kt t)) from atI_nat rfl), _, rfl, (by show 2 ≤ sizeLine; decide), fun tp ntp => ?_⟩
      exact k tp M _ (s5.trans (Same.new ntp)) upd_same
end
end K89
namespace Vr
open PySem PySem.Spec PyProof.Rows L2
section
variable {X : Cx} {k : Nat} {f : Addr} {fd : FuncData} {ps : List Str} {sp : Sp} {x : Str} {p pos : Pos} {e : Expr} {es : List Expr} {t : TA}
/-- a def is called whose promise is asked only where no repr is under way -/
theorem pe_callG (F : GOk X.prog X.w X.K X.mg X.base CX0 k f fd ps sp) (ga : X.A.guards = some []) (hr : Room k X.A) (hg : Gl X x) (hm : X.mg x = some (.ref f)) (hk : PySem.W.keepIn X.K (.ref f) = true) (hb : L2.Binds X.K fd ps [])
    (ha : PA X (e :: es) t) (hdb : (x == ("__debug__" : Str)) = false := by decide) (he : starEach (e :: es) X.env = (false, eval e X.env) :: starEach es X.env := by rfl) (hpl : (backTo pos (starEach es X.env)).any (·.1) = false := by rfl) :
    PE X (.Call (.Name x p) (e :: es) [] pos) (tCall sp [] E0 t) := by
  refine ⟨fun pins s σ H Q I h => wpAny_Call_Name_kw (ld_glob I hg hm (PySem.W.callWith_K (h₀ := X.base) I.ok.mod.kin hk (thn (ha.run pos pins s σ H _ I h) ?_) he hpl) hdb)⟩
  intro us s1 ⟨vs, H1, I1, r, q⟩
  refine ⟨I1.kIn, ?_⟩
  have q' : sp vs H1 Q E0 := by
    have z : sp (vs ++ []) H1 Q E0 := q
    rw [List.append_nil] at z
    exact z
  have len : us.length = ps.length := r.length.symm.trans (F.len _ _ _ _ q')
  have b := hb s1 us I1.kIn (by rw [List.append_nil]; exact len)
  rw [List.append_nil] at b
  refine wpAny_call (codeAny_mono (F.run X.A X.stack s1 H1 ⟨us, []⟩ us vs Q E0 ga hr I1.env0 b r q') ?_)
  intro res s' done
  cases res with
  | error err => exact done.elim
  | ok fl =>
    cases fl with
    | ret u => exact I1.after done
    | next => exact done.elim
    | brk => exact done.elim
    | cont => exact done.elim
end
end Vr
namespace VN
open PySem PySem.W PySem.Calls PyProof.Rows PySem.HandSPX
/-- the text of an __init__ that says super().__init__(lit) and self.f = f -/
def nA (f : Str) (p1 p2 : Pos) : Arguments := { posonlyargs := [], args := [{ arg := "self", annotation := none, pos := p1 }, { arg := f, annotation := none, pos := p2 }], vararg := none, kwonlyargs := [], kw_defaults := [], kwarg := none, defaults := [] }
def nB (f lit : Str) (q1 q2 q3 q4 q5 q6 q7 q8 q9 qa : Pos) : List Stmt :=
  [.Expr (.Call (.Attribute (.Call (.Name "super" q1) [] [] q2) "__init__" q3) [.Constant (.str lit) 0 q4] [] q5) q6, .Assign [.Attribute (.Name "self" q7) f q8] (.Name f q9) qa]
def nS (f : Str) : Scope := { kind := .function, names := [(PySem.Str.ofString "self", .local), (f, .local), (PySem.Str.ofString "__class__", .free), (PySem.Str.ofString "super", .globalImplicit)], isGenerator := false, isCoroutine := false, more := [] }
/-- what the written part says of the class at C and of its __init__ at fI -/
structure Txt (prog : Program) (K : Frag) (mg : Str → Option Value) (C fI : Addr) (qual f lit : Str) : Prop where
  cls : ∃ nm q N bs bm sn sub ab col dd k0 k1 k2 k3 k5, K.lookup C = some (excClassObj nm q C N bs bm true sn sub ab col dd k0 k1 k2 k3 k5 "ValueError.__new__") ∧ refsVE bm = true
  sa : findIn K (.ref C) "__setattr__" = some (some (.builtin "object.__setattr__"))
  noN : findIn K (.ref C) f = some none
  iC : findIn K (.ref C) "__init__" = some (some (.ref fI))
  tC : typeIn K (.ref fI) = some (.type "function")
  kC : keepIn K (.ref C) = true
  exC : subIn K (.ref C) (.type "BaseException") = some true
  tyC : typeIn K (.ref C) = some (.type "type")
  veC : subIn K (.ref C) (.type "ValueError") = some true
  up : ks_superIn K C C "__init__" = some (some (.builtin "ValueError.__init__"))
  inC : excInitIn K C [.type "ValueError", .type "Exception", .type "BaseException", .type "object"] "ValueError.__new__" = true
  me : mroIn K C (.ref C) = some true
  tp : nsIn K cStatics "thirdparty.any" = some none
  sup : nsIn K mainGlobals "super" = some none
  top : (prog.main.scope.names.lookup ("super" : Str)).isSome = false
  bd : ∀ (B : List Stmt) (p1 p2 : Pos) (doc pm : Value) (an : Option Addr) (cdv ct : Value) (cc : Addr) (a v : Value), bindArgs (ksFn "__init__" qual (nA f p1 p2) B (nS f) .none .none doc pm an cdv ct cc) ⟨[a, v], []⟩ = pure [(("self" : Str), a), (f, v)]
  lk : (nS f).names.lookup ("self" : Str) = some .local ∧ (nS f).names.lookup f = some .local ∧ (nS f).names.lookup ("__class__" : Str) = some .free ∧ (nS f).names.lookup ("super" : Str) = some .globalImplicit
  sf : (("self" : Str) == f) = false
  db : (f == ("__debug__" : Str)) = false
  fn : ∃ (oc : Value) (od : Option Addr) (doc pm : Value) (an : Option Addr) (cda cc : Addr) (ct : Value) (osl : Array (Option Value)) (p1 p2 q1 q2 q3 q4 q5 q6 q7 q8 q9 qa : Pos),
    K.lookup fI = some ⟨oc, od, .func (ksFn "__init__" qual (nA f p1 p2) (nB f lit q1 q2 q3 q4 q5 q6 q7 q8 q9 qa) (nS f) .none .none doc pm an (.ref cda) ct cc), osl⟩ ∧ codeIn K (.ref cda) qual = true ∧ (q3.endLine == q5.line) = true ∧
    (∃ cl cld csl, K.lookup cc = some ⟨cl, cld, .cell (some (.ref C)), csl⟩) ∧
    (∃ ccl cdd vs ccs file tf, K.lookup cda = some ⟨ccl, cdd, .fields vs, ccs⟩ ∧ vs[2]? = some (.str file tf) ∧ ((prog.main.file : Str) == file) = true)
theorem mro_eq : excTail [.type "ValueError", .type "Exception", .type "BaseException", .type "object"] [.type "ValueError", .type "Exception", .type "BaseException", .type "object"] = true := by decide +kernel
theorem ev_call {env : Env} {o : Expr} {name lit : Str} {q3 q4 q5 : Pos} (hpos : (q3.endLine == q5.line) = true) (hi : importBound o env = pure (some false)) :
    eval (.Call (.Attribute o name q3) [.Constant (.str lit) 0 q4] [] q5) env = (do
      let ov ← attributeBase o name env (eval o env)
      standAt q3.atName
      let (f, first) ← holding [ov] (getMethod ov name (do return (← importBound o env).getD true))
      callWith q5 f first (backTo q5 (starEach [.Constant (.str lit) 0 q4] env)) []) := by
  rw [arm_eval_Call]
  unfold methodCall methodCallPos
  have h2 : ∀ b : Bool, (!b || q3.endLine == q5.line) = true := fun b => by rw [hpos, Bool.or_true]
  simp only [h2, if_true]
  rfl
section
variable {prog : Program} {w : World} {A : Around} {R : Result → Shared → Prop} {s : Shared} {K : Frag} {mg mb : Str → Option Value} {C fI : Addr} {qual f lit : Str} {hp : Heap}
theorem init_run (T : Txt prog K mg C fI qual f lit) {x t0 : Addr} {v : Value} (X₀ : K.In hp) (hg : hp.Ns mainGlobals mg) (hb : hp.Ns builtinsNs mb) (hbb : ∀ y : Str, y ≠ "__name__" → mb y = bootBuiltins y) (hlim : hp.NoLimit)
    (kp : ∀ b o, hp.get? b = some o → s.heap.get? b = some o) (hsz : hp.objs.size ≤ s.heap.objs.size) (hx : s.heap.get? x = some (excO C t0)) (hpx : hp.get? x = none) (hroom : A.depth < recursionLimit)
    (hq : ∀ h' tk dx t1, (∀ b o, hp.get? b = some o → h'.get? b = some o) → h'.get? x = some { cls := .ref C, dict := some dx, data := .fields #[.ref t1, .none, .none, .none, .bool false, .none] } → hp.objs.size ≤ dx → dx ≠ x →
      h'.Ns1 dx (fun y => if y = f then some v else none) → R (.ok (.ret .none)) { s with heap := h', toks := tk }) :
    codeAny (model prog w) A (.call (.ref fI) ⟨[.ref x, v], []⟩) R s := by
  obtain ⟨oc, od, doc, pm, an, cda, cc, ct, osl, p1, p2, q1, q2, q3, q4, q5, q6, q7, q8, q9, qa, ho, hcd, hpos, ⟨cl, cld, csl, hcell⟩, ⟨ccl, cdd, vs, ccs, file, tf, hcode, hvs, hfile⟩⟩ := T.fn
  obtain ⟨nm, q, N, bs, bm, sn, sub, ab, col, dd, k0, k1, k2, k3, k5, hC, hbm⟩ := T.cls
  obtain ⟨lk1, lk2, lk3, lk4⟩ := T.lk
  have Xs : K.In s.heap := X₀.keeps kp
  have hcl : clsIn K C = some { name := nm, bases := bs, mro := .ref C :: bm, ns := N, qualname := q, hasDict := true, slotNames := sn, subclasses := sub, abstract := ab, collection := col, hasDel := false } := by unfold clsIn; rw [hC] <;> rfl
  refine ks_codeAny_call_defAt (fd := ksFn "__init__" qual (nA f p1 p2) (nB f lit q1 q2 q3 q4 q5 q6 q7 q8 q9 qa) (nS f) .none .none doc pm an (.ref cda) ct cc) (binds := [(("self" : Str), .ref x), (f, v)]) hroom (Xs _ _ ho) rfl (hlim.keeps kp) (codeRec_of Xs hcd) rfl
    (BindsTo.of_eq (T.bd _ _ _ _ _ _ _ _ _ _ _)) ?_ ?_ (fun h₁ hns k₁ => ?_) rfl rfl rfl
  · intro y hy
    rcases List.mem_cons.mp hy with rfl | hy
    · exact fun z => NameKind.noConfusion z
    rcases List.mem_cons.mp hy with rfl | hy
    · exact fun z => NameKind.noConfusion z
    rcases List.mem_cons.mp hy with rfl | hy
    · exact fun z => NameKind.noConfusion z
    rcases List.mem_cons.mp hy with rfl | hy
    · exact fun z => NameKind.noConfusion z
    cases hy
  · intro y hy
    rcases List.mem_cons.mp hy with rfl | hy
    · exact lk1
    rcases List.mem_cons.mp hy with rfl | hy
    · exact lk2
    cases hy
  have m1 : ([(("self" : Str), Value.ref x), (f, v)].reverse.lookup ("self" : Str)) = some (.ref x) := by
    show List.lookup ("self" : Str) [(f, v), (("self" : Str), Value.ref x)] = _
    simp [List.lookup, T.sf]
  have m2 : ([(("self" : Str), Value.ref x), (f, v)].reverse.lookup f) = some v := by
    show List.lookup f [(f, v), (("self" : Str), Value.ref x)] = _
    simp [List.lookup]
  have kh : ∀ b o, hp.get? b = some o → h₁.get? b = some o := fun b o e => k₁ b o (kp b o e)
  have F₁ : Fr hp s.heap.objs.size h₁ (fun y => [(("self" : Str), Value.ref x), (f, v)].reverse.lookup y) := ⟨hns, kh, hsz⟩
  have N₁ : News hp s.heap.objs.size h₁ [(x, excObj C t0 none .none)] := fun p hp' => by
    obtain rfl := List.mem_singleton.mp hp'
    exact ⟨k₁ _ _ hx, Nat.ne_of_lt (Heap.lt_size hx), hpx⟩
  refine ks_wpAt_execs_cons (ks_wpAt_Expr_any (ks_wpAt_MethodCall ?_ (ev_call hpos rfl)))
  have kc : ∀ {b : Addr} {o : Obj}, K.lookup b = some o → h₁.get? b = some o := fun e => kh _ _ (X₀ _ _ e)
  have X₁ : K.In h₁ := X₀.keeps kh
  have hx₁ := k₁ _ _ hx
  refine ks_wpAt_super_base (env := ksEnv qual (nS f) s.heap.objs.size fI (.ref cda) cc) lk4 lk3 (by decide) rfl (kc ho) rfl rfl rfl (kc hcode) rfl hvs hfile T.top ?_
  refine ks_loadName_global rfl lk4 (loadGlobal_builtin (hg.keeps kh) (mg_none_of X₀ hg T.sup) (hb.keeps kh) ((hbb _ (by decide +kernel)).trans (show bootBuiltins "super" = some (.type "super") by decide +kernel)) ⟨rfl, ?_⟩)
  refine wpAny_loadName_free rfl lk3 rfl ⟨_, kc hcell, rfl⟩ ?_
  refine wpAny_loadName_local rfl lk1 hns m1 ?_
  refine ks_wpAny_isType_cls (kc hC) rfl ⟨rfl, ?_⟩
  refine ks_wpAny_call_super (kc hC) rfl hx₁ rfl (fun c z => by cases z) (looks_mroIn X₁ T.me) (fun h₂ e₂ k₂ => ?_)
  obtain ⟨F₂, N₂, l₂⟩ := ks_newsPush (s := ⟨h₁, s.gens, s.drawn, s.toks + 2, s.os⟩) F₁ N₁ rfl e₂ k₂
  have kh₂ : ∀ b o, hp.get? b = some o → h₂.get? b = some o := fun b o e => k₂ b o (kh b o e)
  have X₂ : K.In h₂ := X₀.keeps kh₂
  have hx₂ := k₂ _ _ hx₁
  refine kxs_method (s := ⟨h₂, s.gens, s.drawn, s.toks + 2, s.os⟩) kxs_ValueError F₂ X₀ N₂ List.mem_cons_self (InstAt.of_exc0 N₂ (List.mem_cons_of_mem _ List.mem_cons_self)) T.tp T.up T.veC (by decide) (fun u h₃ F₃ N₃ l₃ => ?_)
  refine kxs_callWith1 (s := ⟨h₃, s.gens, s.drawn, s.toks + 2 + 1, s.os⟩) (i := "ValueError.__init__") N₃ List.mem_cons_self ?_
  refine spliced_more (wpAny_Constant_str (spliced_none ⟨kxs_at N₃ List.mem_cons_self, ?_⟩))
  have nux : u ≠ x := fun z => by
    have := l₃ _ (List.mem_cons_of_mem _ List.mem_cons_self)
    rw [z] at this
    exact absurd this (Nat.lt_irrefl _)
  have nsx : h₁.objs.size ≠ x := fun z => by
    have := l₂ _ List.mem_cons_self
    rw [← z] at this
    exact absurd this (Nat.lt_irrefl _)
  refine kxs_call (s := ⟨h₃, s.gens, s.drawn, s.toks + 2 + 1 + 1, s.os⟩) F₃ X₀ N₃ PySem.F.excBase_ValueError T.inC List.mem_cons_self (.tail nux (.tail nsx (.head (by simp)))) (by show 1 ≤ sizeLine; rw [sizeLine_eq]; omega) (fun t₄ h₄ F₄ N₄ l₄ => ?_)
  have kh₄ : ∀ b o, hp.get? b = some o → h₄.get? b = some o := F₄.keep
  have X₄ : K.In h₄ := X₀.keeps kh₄
  have hx₄ : h₄.get? x = some (excO C t₄) := (N₄ (x, excObj C t₄ none .none) (by simp)).1
  have z₄ : s.heap.objs.size < h₄.objs.size := F₄.ns.lt
  refine ks_wpAt_execs_cons (ks_wpAt_Assign_Attr ?_)
  refine wpAt_of_wpAny (wpAny_Name ?_ T.db)
  refine wpAny_loadName_local rfl lk2 F₄.ns m2 ?_
  refine wpAny_Name ?_ (by decide)
  refine wpAny_loadName_local rfl lk1 F₄.ns m1 ?_
  refine set_plain X₄ (ox := excO C t₄) (od := none) ⟨hx₄, rfl, rfl, trivial⟩ T.sa ?_
  refine exc_osa X₄ hx₄ hcl (show refsVE (.ref C :: bm) = true from hbm) rfl T.noN (fun h₅ tk₅ dx k₅ dn dne hx₅ hn₅ => ?_)
  refine wpAt_of_wpAny (wpAny_execs_nil (hq h₅ tk₅ dx t₄ (fun b o e => k₅ b o (fun z => ?_) (kh₄ b o e)) hx₅ (Nat.le_trans hsz (Nat.le_trans (Nat.le_of_lt z₄) dn)) dne hn₅))
  rw [z, hpx] at e
  cases e
/-- what C(v) leaves: the exception at e, its dict at d -/
structure Made (h h' : Heap) (e C d : Addr) (f : Str) (v : Value) : Prop where
  keep : ∀ b o, h.get? b = some o → h'.get? b = some o
  new : h.objs.size ≤ e
  obj : ∃ t1 : Addr, h'.get? e = some { cls := .ref C, dict := some d, data := .fields #[.ref t1, .none, .none, .none, .bool false, .none] }
  big : h.objs.size ≤ d
  dne : d ≠ e
  ns : h'.Ns1 d (fun y => if y = f then some v else none)
theorem made (T : Txt prog K mg C fI qual f lit) {v : Value} (X₀ : K.In s.heap) (hg : s.heap.Ns mainGlobals mg) (hb : s.heap.Ns builtinsNs mb) (hbb : ∀ y : Str, y ≠ "__name__" → mb y = bootBuiltins y) (hlim : s.heap.NoLimit)
    (hroom : A.depth + 1 < recursionLimit) (hq : ∀ h' tk e d, Made s.heap h' e C d f v → R (.ok (.ret (.ref e))) { s with heap := h', toks := tk }) : codeAny (model prog w) A (.call (.ref C) ⟨[v], []⟩) R s := by
  obtain ⟨nm, q, N, bs, bm, sn, sub, ab, col, dd, k0, k1, k2, k3, k5, hC, hbm⟩ := T.cls
  obtain ⟨hp, g, dr, tk, os⟩ := s
  have kk : ∀ b o, hp.get? b = some o → ((hp.push (kdv_tup [v])).push (excO C hp.objs.size)).get? b = some o := fun b o e => Heap.get?_push_of_some _ (Heap.get?_push_of_some _ e)
  have he : ((hp.push (kdv_tup [v])).push (excO C hp.objs.size)).get? (hp.objs.size + 1) = some (excO C hp.objs.size) := by heap_get
  have hpe : hp.get? (hp.objs.size + 1) = none := by
    cases z : hp.get? (hp.objs.size + 1) with
    | none => rfl
    | some o => exact absurd (Nat.lt_of_succ_lt (Heap.lt_size z)) (Nat.lt_irrefl _)
  refine call_own PySem.F.excBase_ValueError (fun Y => refsVE_contains Y bm hbm) (X₀ _ _ hC) (looks_findIn X₀ T.iC) (fun self => bind_fn X₀ self T.tC) (by show 1 ≤ sizeLine; rw [sizeLine_eq]; omega) ?_
  refine init_run (s := ⟨(hp.push (kdv_tup [v])).push (excO C hp.objs.size), g, dr, tk, os⟩) T X₀ hg hb hbb hlim kk (by show hp.objs.size ≤ _; rw [Heap.size_push, Heap.size_push]; omega) he hpe hroom (fun h' tk' dx t1 k' hx db dn hn => ?_)
  exact ⟨rfl, hq h' tk' (hp.objs.size + 1) dx ⟨k', Nat.le_succ _, ⟨t1, hx⟩, db, dn, hn⟩⟩
end
end VN
namespace L2
open PySem PySem.Spec PyProof.Rows
section
variable {X : Cx} {C fI : Addr} {qual f lit n : Str}
/-- n(e), the class at C -/
def tMkN (C : Addr) (f : Str) (ta : TA) : St → Hp → XK → Prop := fun σ H Q => ta σ H fun vs H1 => ∃ v, vs = [v] ∧ ∀ d, H1 d = none → Q (.ref C) (some d) (upd H1 d (.xd [(f, v)]))
theorem pmk_n {a : Expr} {ta : TA} {p pos : Pos} {k : Nat} (T : VN.Txt X.prog X.K X.mg C fI qual f lit) (hm : X.mg n = some (.ref C)) (hr : Room k X.A) (ha : PA X [a] ta) (hg : Gl X n)
    (hdb : (n == ("__debug__" : Str)) = false := by decide)
    (he : starEach (a :: []) X.env = (false, eval a X.env) :: starEach [] X.env := by rfl) (hpl : (backTo pos (starEach [] X.env)).any (·.1) = false := by rfl) :
    PMk X (.Call (.Name n p) [a] [] pos) (tMkN C f ta) := by
  intro pins s σ H Q I h
  refine wpAny_Call_Name_kw (ld_glob I hg hm ?_ hdb)
  refine PySem.W.callWith_K (h₀ := X.base) I.ok.mod.kin T.kC (thn (ha.run pos pins s σ H _ I h) fun us s1 ⟨vs, H1, I1, r1, v, ev, q1⟩ => ?_) he hpl
  subst ev
  refine ⟨I1.kIn, ?_⟩
  cases r1 with
  | cons rv rn =>
    rename_i v' us'
    cases rn
    have hlim := I1.nolimit
    have bs := fun b o e => (I1.bs b o e).1
    obtain ⟨mb, hb, hbb⟩ := I1.ok.mod.blt
    have hg1 := I1.ok.mod.glob.keeps bs
    have hb1 := hb.keeps bs
    obtain ⟨hp, g, dr, tk, os⟩ := s1
    refine wpAny_call (VN.made T I1.kIn hg1 hb1 hbb hlim (by have := hr.dp; omega) fun h' tk' e d M => ?_)
    show MkP X pins σ Q (.ref e) ⟨h', g, dr, tk', os⟩
    obtain ⟨t1, hoe⟩ := M.obj
    obtain ⟨G', g1, g2⟩ := restrict h' fun b => decide (b ≠ e)
    have gk : ∀ b, b ≠ e → G'.get? b = h'.get? b := fun b hb => g1 b (decide_eq_true hb)
    have ge : G'.get? e = none := g2 e (by simp)
    have old : ∀ b o, hp.get? b = some o → G'.get? b = some o := fun b o q => (gk b (Nat.ne_of_lt (Nat.lt_of_lt_of_le (Heap.lt_size q) M.new))).trans (M.keep b o q)
    have ob : ObjOk X.prog X.w (upd H1 d (.xd [(f, v)])) G' d (.xd [(f, v)]) :=
      ⟨_, M.ns.at (fun o q => (gk d M.dne).trans q), fun y => relO_put rv (mA := fun _ => none) (fs := []) (fun _ => True.intro) y⟩
    have J : Inv X pins σ (upd H1 d (.xd [(f, v)])) ⟨G', g, dr, tk', os⟩ := I1.laid (t' := tk') old M.big ob
    refine ⟨e, _, _, ⟨G', g, dr, tk', os⟩, _, .ref C, some d, rfl, J, fun b o q => ?_, ge, hoe, ⟨rfl, rfl⟩, rfl, rfl, ?_, rfl, I1.bare, raises_own T.exC T.tyC, q1 d (I1.hok.fresh M.big)⟩
    · by_cases hb : b = e
      · have q' : G'.get? b = some o := q
        rw [hb, ge] at q'; cases q'
      · exact (gk b hb).symm.trans q
    · rw [upd_ne (Ne.symm M.dne)]
      exact I1.hok.fresh M.new
end
end L2
namespace VI
open PySem PySem.Spec PySem.Calls PyProof.Rows PySem.W
section
variable {prog : Program} {w : World} {A : Around} {E : Value → Shared → Prop} {s : Shared} {K : Frag} {x D : Addr} {ox : Obj} {od : Option Obj}
theorem found (T : L2.ExcC K D) : findObj K D od "__class__" = some (.bind (.builtin "getset_descriptor.__get__") (.builtin "object.__class__")) := by
  obtain ⟨cd, hc, _⟩ := any_some T.hd
  unfold findObj
  rw [hc, Option.bind_some, T.ha, Option.bind_some]
  simp [T.hn, T.ht]
theorem cls_exc {Q : Option Value → Shared → Prop} (T : L2.ExcC K D) (X : K.In s.heap) (I : InstAt s.heap x ox D od) (h : Q (some (.ref D)) { s with toks := s.toks + 1 }) :
    wpAny (model prog w) A (getAttr? (.ref x) "__class__") Q E s := by
  obtain ⟨hp, gs, dr, tk, os⟩ := s
  have ty := I.type (M := model prog w)
  have ga := looks_findIn (M := model prog w) X T.hg
  have gt := looks_findIn (M := model prog w) X T.hk
  have fd := looks_find (M := model prog w) X I (found T)
  have n1 : (Value.builtin "BaseException.__getattribute__" == Value.builtin "object.__getattribute__") = false := by decide +kernel
  have bd := PySem.F.excAttr_ValueError.ga.bind (.ref x)
  unfold getAttr? getAttrBy? getAttrBy
  repeat (first | (with_reducible refine ty.at ?_) | (with_reducible refine ga.at ?_) | wp_step)
  refine gt.at ?_
  unfold callGetattribute boundAndCalled
  repeat (first | (simp only [bd, Bool.false_and, Bool.false_eq_true, if_false]) | wp_step)
  have sb : Looks (model prog w) hp (isInstance (.ref x) (.type "BaseException")) true := ty.andThen (looks_subIn X T.hs)
  have ar := PySem.F.args_bexc_ga (.ref x) (.str "__class__" tk)
  refine codeAny_call_builtin PySem.F.excAttr_ValueError.ga.plain PySem.F.entry_bexc_ga (@check_slot (model prog w) _ _ ⟨hp, gs, dr, tk + 1, os⟩ "BaseException.__getattribute__" "BaseException" "__getattribute__" (.ref x) [.str "__class__" tk] [] _ (by decide +kernel) (by decide +kernel) sb ar ?_)
  unfold Builtin.«object.__getattribute__»
  refine wpAny_bind (wpAny_of_eq (a := ((Value.ref x : Value), [Value.str "__class__" tk])) (by first | rfl | (simp only [slotArgs]; rfl)) ?_)
  repeat (first | (with_reducible refine ty.at ?_) | (with_reducible refine fd.at ?_) | wp_step)
  refine class_get (s := ⟨hp, gs, dr, tk + 1, os⟩) (ox := ox) (od := od) X I T.hm ?_
  repeat (first | (rw [handedOut_of (v := .ref D) rfl]) | wp_step)
  exact h
/-- such an exception, whatever dict it has -/
theorem kit (T : L2.ExcC K D) : KitX K (.ref x) (.ref D) (fun h => ∃ od, InstAt h x ox D od) where
  ty := fun _ _ _ ⟨_, I⟩ => I.type
  it := fun _ _ X _ => by
    obtain ⟨cd, hc, _⟩ := any_some T.hd
    unfold clsIn at hc
    split at hc
    · rename_i ho
      intro A' Q' E' s' k q
      exact wpAny_bind (wpAny_loadPart (k _ _ (X _ _ ho)) (wpAny_pure q))
    · cases hc
  ne := fun h tp dd its n sl X htp => by
    obtain ⟨cd, hc, _⟩ := any_some T.hd
    cases q : ((.ref D : Value) == .ref tp) with
    | false => rfl
    | true =>
      obtain rfl : D = tp := Value.ref.inj (beq_iff_eq.mp q)
      unfold clsIn at hc
      split at hc
      · rename_i ho
        cases (X _ _ ho).symm.trans htp
      · cases hc
  ca := fun X ⟨_, I⟩ k => cls_exc T X I k
end
end VI
namespace L2
open PySem PySem.Spec PyProof.Rows
theorem inst_of {K : PySem.W.Frag} {X : Cx} {pn pins : List (Addr × Obj)} {σ : St} {H : Hp} {s : Shared} {a D : Addr} {oe : Obj} {d : Option Addr} (I : Inv (X.suite a ((a, oe) :: pn)) pins σ H s) (hz : Zc (.ref D) d oe) (hf : ∃ vs, oe.data = .fields vs)
    (hd : ∀ dd, d = some dd → ∃ fs, H dd = some (.xd fs)) : ∃ od, PySem.W.InstAt s.heap a oe D od := by
  obtain ⟨ha, _⟩ := I.pin (a, oe) (List.mem_append_left _ List.mem_cons_self)
  obtain ⟨vs, hv⟩ := hf
  obtain ⟨h1, h2⟩ := hz
  have nc : PySem.W.notCls oe = true := by unfold PySem.W.notCls; rw [hv] <;> rfl
  cases d with
  | none => exact ⟨none, ha, h1, nc, by rw [h2]; trivial⟩
  | some dd =>
    obtain ⟨fs, ed⟩ := hd dd rfl
    have hx : ObjOk X.prog X.w H s.heap dd (.xd fs) := I.hok dd _ ed
    obtain ⟨mA, hns, hr⟩ := hx
    obtain ⟨od, ho, hl⟩ := lookIn_ns hns
    exact ⟨some od, ha, h1, nc, by rw [h2]; exact ho⟩
/-- isinstance(e, c), e the exception that the suite holds (at a, its class cls, its dict d) -/
def rIsX (K : PySem.W.Frag) (D a : Addr) (cls : Value) (d : Option Addr) : List V → Hp → VK → Prop := fun xs H Q => ∃ (c : V) (u : Value) (b : Bool), xs = [.ref a, c] ∧ cls = .ref D ∧ ClsV c u ∧ PySem.W.kitOne K (.ref D) u = some b ∧
  (∀ dd, d = some dd → ∃ fs, H dd = some (.xd fs)) ∧ Q (.bl b) H
theorem call_isX {X : Cx} {a D : Addr} {oe : Obj} {cls : Value} {d : Option Addr} {pn : List (Addr × Obj)} (C : ExcC X.K D) (hz : Zc cls d oe) (hf : ∃ vs, oe.data = .fields vs) : CallR (X.suite a ((a, oe) :: pn)) (.builtin "isinstance") (rIsX X.K D a cls d) := by
  intro pins s σ H xs us Q I r h
  obtain ⟨c, u, b, rfl, rfl, hc, e, hd, q⟩ := h
  obtain ⟨u1, u2, rfl, r1, r2⟩ := vals2 r
  cases (show u1 = Value.ref a from r1)
  have e2 := hc.eq r2
  subst e2
  exact PySem.W.kia_one (VI.kit C) I.kIn (inst_of (K := X.K) I hz hf hd) e (fun z => nomatch z) fun tk => ⟨.bl b, H, I.tok tk, rfl, q⟩
/-- isinstance(e, (c1, c2, ..)) -/
def rIsXT (K : PySem.W.Frag) (D a : Addr) (cls : Value) (d : Option Addr) : List V → Hp → VK → Prop := fun xs H Q => ∃ (tp : Addr) (cs : List V) (us : List Value) (b : Bool), xs = [.ref a, .ref tp] ∧ cls = .ref D ∧ H tp = some (.tup cs) ∧ Paired ClsV cs us ∧
  PySem.W.kitAny K (.ref D) us = some b ∧ (∀ dd, d = some dd → ∃ fs, H dd = some (.xd fs)) ∧ Q (.bl b) H
theorem call_isXT {X : Cx} {a D : Addr} {oe : Obj} {cls : Value} {d : Option Addr} {pn : List (Addr × Obj)} (C : ExcC X.K D) (hz : Zc cls d oe) (hf : ∃ vs, oe.data = .fields vs) : CallR (X.suite a ((a, oe) :: pn)) (.builtin "isinstance") (rIsXT X.K D a cls d) := by
  intro pins s σ H xs us Q I r h
  obtain ⟨tp, cs, ws, b, rfl, rfl, hT, k, e, hd, q⟩ := h
  obtain ⟨u1, u2, rfl, r1, r2⟩ := vals2 r
  cases (show u1 = Value.ref a from r1)
  cases (show u2 = Value.ref tp from r2)
  obtain ⟨_, its, rv, o, h1, h2, n, h3⟩ := (show ObjOk X.prog X.w H s.heap tp (.tup cs) from I.hok tp _ hT)
  have e3 := ClsV.all k rv
  subst e3
  obtain ⟨oc, od, dt, sl⟩ := o
  simp only at h2 h3
  subst h2 h3
  exact PySem.W.kia_tup (VI.kit C) I.kIn (inst_of (K := X.K) I hz hf hd) h1 e (fun z => nomatch z) fun tk => ⟨.bl b, H, I.tok tk, rfl, q⟩
end L2
/-! repr of data within an except suite (no repr is under way). -/
namespace Vr
open PySem PySem.Spec PyProof.Rows L2
section
variable {X : Cx}
theorem call_reprDU (hg : X.A.guards = some []) (un : X.A.units + 200 < cLine) : CallR X (.builtin "repr") (rReprD X.K) := by
  intro pins s σ H xs us Q I r h
  obtain ⟨x, d, rfl, hd, hs, hw, hz, q⟩ := h
  obtain ⟨u, rfl, ru⟩ := vals1 r
  have nd : d.hasDict = false := PyData.hasDict_of_canLay d (SeqAt.canLay_of_shaped hs)
  have dd := SeqAt.depth_of_shaped hs
  cases hd with
  | non =>
    cases (show u = Value.none from ru)
    exact PySem.P.repr_of_none ⟨.str _, H, I.tok _, ⟨_, rfl⟩, q⟩
  | bl b =>
    cases (show u = Value.bool b from ru)
    exact PySem.P.repr_of_bool ⟨.str _, H, I.tok _, ⟨_, rfl⟩, q⟩
  | int i =>
    obtain ⟨t, e⟩ := (show ∃ t, u = Value.int i t from ru)
    subst e
    exact PySem.P.repr_of_int (by simpa [PyData.showable] using hw) ⟨.str _, H, I.tok _, ⟨_, rfl⟩, q⟩
  | str y =>
    obtain ⟨t, e⟩ := (show ∃ t, u = Value.str y t from ru)
    subst e
    exact PySem.P.repr_of_str ⟨.str _, H, I.tok _, ⟨_, rfl⟩, q⟩ hz
  | @lst a ys ds h1 h2 =>
    cases (show u = Value.ref a from ru)
    obtain ⟨as, rd⟩ := Dp.reads I _ _ _ (Dp.lst h1 h2) (show RelV (.ref a) (.ref a) from rfl)
    refine repr_of_reads' rd hw (fun z => ?_) hg (by omega) (fun _ _ e => e) (fun h' t tk hk => ?_) hz
    · rw [nd] at z
      cases z
    · exact ⟨.str _, H, I.kept hk, ⟨t, rfl⟩, q⟩
  | @tup a ys ds h1 h2 =>
    cases (show u = Value.ref a from ru)
    obtain ⟨as, rd⟩ := Dp.reads I _ _ _ (Dp.tup h1 h2) (show RelV (.ref a) (.ref a) from rfl)
    refine repr_of_reads' rd hw (fun z => ?_) hg (by omega) (fun _ _ e => e) (fun h' t tk hk => ?_) hz
    · rw [nd] at z
      cases z
    · exact ⟨.str _, H, I.kept hk, ⟨t, rfl⟩, q⟩
end
end Vr
namespace K89
open PySem PySem.Spec PyProof.Rows L2 Vr BK Vd Vgi SlX Vc VZ VY VB
theorem tbl_but {C : Addr} {H H' : Hp} {a b : Addr} {ns : List Str} {kvs : List (List Key × V)} (h : TblAt C H a ns kvs) (hb : Bag H b) (k : But b H H') (ne : ns ≠ []) : TblAt C H' a ns kvs := by
  obtain ⟨dx, p, q, h1, h2, h3⟩ := h
  have pb : p ≠ b := fun z => by
    obtain ⟨x, y, w, e, _⟩ := hb
    rw [z, e] at h2
    cases ns with
    | nil => exact ne rfl
    | cons n r => cases h2
  have ob : ∀ {c : Addr} {o : HO}, H c = some o → (∀ xs, o ≠ .lst xs) → c ≠ b := fun h n z => by
    obtain ⟨x, y, w, e, _⟩ := hb
    rw [z, e] at h
    cases h
    exact n _ rfl
  exact ⟨dx, p, q, k _ _ h1 (ob h1 (by intro xs z; cases z)), k _ _ h2 pb, k _ _ h3 (ob h3 (by intro xs z; cases z))⟩
theorem bag_ne {H : Hp} {b c : Addr} {o : HO} (hb : Bag H b) (h : H c = some o) (n : ∀ xs, o ≠ .lst xs) : c ≠ b := fun z => by
  obtain ⟨_, _, _, q, _⟩ := hb
  rw [z, q] at h
  cases h
  exact n _ rfl
/-! ### data while a bag is drawn from -/
mutual
def NB : PyData → Bool
  | .list ds => (match ds with | .int _ :: _ => false | _ => true) && NBs ds
  | .tuple ds => NBs ds
  | _ => true
def NBs : List PyData → Bool
  | [] => true
  | d :: ds => NB d && NBs ds
end
mutual
theorem DatAt.butB {H H' : Hp} {b : Addr} (hb : Bag H b) (k : But b H H') : ∀ {v : V} {d : PyData}, DatAt H v d → NB d = true → DatAt H' v d
  | _, _, .non, _ => .non
  | _, _, .bl b, _ => .bl b
  | _, _, .int i, _ => .int i
  | _, _, .str x, _ => .str x
  | _, _, .lst (a := a) (xs := xs) (ds := ds) h r, n => by
    simp only [NB, Bool.and_eq_true] at n
    refine .lst (k _ _ h fun z => ?_) (DatAll.butB hb k r n.2)
    obtain ⟨x, y, w, q, _⟩ := hb
    rw [z, q] at h
    cases h
    cases r with
    | cons h1 r1 =>
      cases h1
      exact absurd n.1 (by simp)
  | _, _, .tup h r, n => .tup (tup_but hb k _ _ h) (DatAll.butB hb k r (by simpa only [NB] using n))
theorem DatAll.butB {H H' : Hp} {b : Addr} (hb : Bag H b) (k : But b H H') : ∀ {vs : List V} {ds : List PyData}, DatAll H vs ds → NBs ds = true → DatAll H' vs ds
  | _, _, .nil, _ => .nil
  | _, _, .cons h r, n => by
    simp only [NBs, Bool.and_eq_true] at n
    exact .cons (DatAt.butB hb k h n.1) (DatAll.butB hb k r n.2)
end
theorem NB_tree : ∀ t : T, NB t.data = true
  | .leaf x => by simp only [T.data, NB]
  | .node l r => by simp only [T.data, NB, NBs, NB_tree l, NB_tree r, Bool.and_self]
theorem datGet {H : Hp} : ∀ {xs : List V} {ds : List PyData} {i : Nat} {x : V}, DatAll H xs ds → xs[i]? = some x → ∃ d, ds[i]? = some d ∧ DatAt H x d
  | _, _, i, x, .nil, e => by simp at e
  | _, _, 0, x, .cons h r, e => by
    simp only [List.getElem?_cons_zero, Option.some.injEq] at e
    subst e
    exact ⟨_, rfl, h⟩
  | _, _, i + 1, x, .cons h r, e => by
    simp only [List.getElem?_cons_succ] at e ⊢
    exact datGet r e
theorem names_dat {H : Hp} : ∀ xs : List Str, DatAll H (xs.map V.str) (xs.map PyData.str)
  | [] => .nil
  | x :: xs => .cons (.str x) (names_dat xs)
def FitW (d : PyData) : Prop := ok d = true ∧ nd d ≤ 1000000 ∧ SeqAt.shaped d = true ∧ d.showable = true ∧ d.shown.length ≤ sizeLine
structure FitL (n w k : Nat) (ds : List PyData) : Prop where
  ok : okAll ds = true
  lay : PyData.canLayAll0 ds = true
  sho : PyData.showableAll ds = true
  dep : PyData.depthAll ds ≤ n
  wid : wtAll ds ≤ w
  nod : ndAll ds ≤ k
theorem FitL.nil : FitL 0 0 0 [] := ⟨rfl, rfl, rfl, Nat.le_refl _, Nat.le_refl _, Nat.le_refl _⟩
theorem FitL.cons {n m w u k j : Nat} {d : PyData} {ds : List PyData} (h : Fit n w k d) (g : FitL m u j ds) : FitL (max n m) (w + 2 + u) (k + j) (d :: ds) := by
  refine ⟨?_, ?_, ?_, ?_, ?_, ?_⟩
  · simp only [okAll, h.ok, g.ok, Bool.and_self]
  · simp only [PyData.canLayAll0, h.lay, g.lay, Bool.and_self]
  · simp only [PyData.showableAll, h.sho, g.sho, Bool.and_self]
  · have := h.dep
    have := g.dep
    simp only [PyData.depthAll]
    omega
  · have := h.wid
    have := g.wid
    simp only [wtAll]
    omega
  · have := h.nod
    have := g.nod
    simp only [ndAll]
    omega
theorem FitL.tup {n w k : Nat} {ds : List PyData} (h : FitL n w k ds) : Fit (n + 1) (w + 4) (k + 1) (.tuple ds) := by
  refine ⟨?_, ?_, ?_, ?_, ?_, ?_⟩
  · simpa only [K89.ok] using h.ok
  · simpa only [PyData.canLay0] using h.lay
  · simpa only [PyData.showable] using h.sho
  · have := h.dep
    simp only [PyData.depth]
    omega
  · have := h.wid
    simp only [wt]
    omega
  · have := h.nod
    simp only [nd]
    omega
theorem FitL.lst {n w k : Nat} {ds : List PyData} (h : FitL n w k ds) : Fit (n + 1) (w + 4) (k + 1) (.list ds) := by
  refine ⟨?_, ?_, ?_, ?_, ?_, ?_⟩
  · simp only [K89.ok]
  · simpa only [PyData.canLay0] using h.lay
  · simpa only [PyData.showable] using h.sho
  · have := h.dep
    simp only [PyData.depth]
    omega
  · have := h.wid
    simp only [wt]
    omega
  · simp only [nd]
    omega
theorem Fit.w {n w k : Nat} {d : PyData} (h : Fit n w k d) (hn : n ≤ 64) (hw : w ≤ 1000000) (hk : k ≤ 1000000) : FitW d :=
  ⟨h.ok, Nat.le_trans h.nod hk, h.shaped hn, h.sho, h.short hw⟩
theorem fit_good {x : Str} (h : Good x) : Fit 0 70 1 (.str x) := (tree_fit (.leaf x) (fun y hy => by cases List.mem_singleton.mp hy; exact h)).mono (Nat.le_refl _) (Nat.le_refl _) (Nat.le_refl _)
theorem fit_goods : ∀ {cs : List Str}, (∀ x ∈ cs, Good x) → FitL 0 (72 * cs.length) cs.length (cs.map .str)
  | [], _ => FitL.nil
  | x :: cs, h => by
    have a := fit_good (h x (List.mem_cons_self ..))
    have b := fit_goods (cs := cs) fun y hy => h y (List.mem_cons_of_mem _ hy)
    have c := FitL.cons a b
    refine ⟨c.ok, c.lay, c.sho, c.dep, Nat.le_trans c.wid ?_, Nat.le_trans c.nod ?_⟩
    · rw [List.length_cons]
      omega
    · rw [List.length_cons]
      omega
theorem NBs_take : ∀ {ds : List PyData} (k : Nat), NBs ds = true → NBs (ds.take k) = true
  | [], k, _ => by simp [NBs]
  | d :: ds, 0, _ => rfl
  | d :: ds, k + 1, h => by
    simp only [NBs, Bool.and_eq_true] at h
    simp only [List.take_succ_cons, NBs, h.1, NBs_take k h.2, Bool.and_self]
theorem NBs_drop : ∀ {ds : List PyData} (k : Nat), NBs ds = true → NBs (ds.drop k) = true
  | ds, 0, h => h
  | [], k + 1, _ => rfl
  | d :: ds, k + 1, h => by
    simp only [NBs, Bool.and_eq_true] at h
    simpa only [List.drop_succ_cons] using NBs_drop k h.2
theorem NBs_set : ∀ {ds : List PyData} (k : Nat) {d : PyData}, NBs ds = true → NB d = true → NBs (ds.set k d) = true
  | [], _, _, _, _ => rfl
  | e :: ds, 0, d, h, n => by
    simp only [NBs, Bool.and_eq_true] at h
    simp only [List.set_cons_zero, NBs, n, h.2, Bool.and_self]
  | e :: ds, k + 1, d, h, n => by
    simp only [NBs, Bool.and_eq_true] at h
    simp only [List.set_cons_succ, NBs, h.1, NBs_set k h.2 n, Bool.and_self]
theorem NBs_names : ∀ l : List Str, NBs (l.map PyData.str) = true
  | [] => rfl
  | x :: l => by simp [NBs, NB, NBs_names l]
theorem datTake {H : Hp} : ∀ {xs : List V} {ds : List PyData} (k : Nat), DatAll H xs ds → DatAll H (xs.take k) (ds.take k)
  | _, _, 0, _ => .nil
  | _, _, k + 1, .nil => .nil
  | _, _, k + 1, .cons h r => .cons h (datTake k r)
theorem datDrop {H : Hp} : ∀ {xs : List V} {ds : List PyData} (k : Nat), DatAll H xs ds → DatAll H (xs.drop k) (ds.drop k)
  | _, _, 0, h => h
  | _, _, k + 1, .nil => .nil
  | _, _, k + 1, .cons _ r => datDrop k r
theorem datSet {H : Hp} {v : V} {d : PyData} (hv : DatAt H v d) : ∀ {xs : List V} {ds : List PyData} (k : Nat), DatAll H xs ds → DatAll H (xs.set k v) (ds.set k d)
  | _, _, _, .nil => .nil
  | _, _, 0, .cons _ r => .cons hv r
  | _, _, k + 1, .cons h r => .cons h (datSet hv k r)
theorem datLen {H : Hp} : ∀ {xs : List V} {ds : List PyData}, DatAll H xs ds → xs.length = ds.length
  | _, _, .nil => rfl
  | _, _, .cons _ r => by rw [List.length_cons, List.length_cons, datLen r]
theorem all_set {α : Type} (p : α → Bool) (x : α) : ∀ (l : List α) (j : Nat), j < l.length → (∀ y ∈ l, p y = true) → (l.set j x).all p = p x
  | [], _, h, _ => by simp at h
  | y :: l, 0, _, h => by
    have : l.all p = true := List.all_eq_true.mpr fun z hz => h z (List.mem_cons_of_mem _ hz)
    rw [List.set_cons_zero, List.all_cons, this, Bool.and_true]
  | y :: l, j + 1, h, g => by
    rw [List.set_cons_succ, List.all_cons, g y (List.mem_cons_self ..), all_set p x l j (by simpa using h) fun z hz => g z (List.mem_cons_of_mem _ hz), Bool.true_and]
/-! ### joined data -/
inductive Jn : List PyData → PyData → Prop
  | one (d : PyData) : Jn [d] d
  | two {xs ys : List PyData} {d e : PyData} : Jn xs d → Jn ys e → Jn (xs ++ ys) (.tuple [d, e])
theorem Jn.len {ds : List PyData} {d : PyData} (j : Jn ds d) : 1 ≤ ds.length := by
  induction j with
  | one d => exact Nat.le_refl _
  | two _ _ h1 h2 =>
    rw [List.length_append]
    omega
theorem jn_isT {ds : List PyData} {d : PyData} (j : Jn ds d) : isT d = ds.all isT := by
  induction j with
  | one d => rw [List.all_cons, List.all_nil, Bool.and_true]
  | two _ _ h1 h2 =>
    rw [List.all_append, ← h1, ← h2]
    simp only [isT, isTAll, Bool.and_true]
    rfl
theorem jn_fit {ds : List PyData} {d : PyData} (j : Jn ds d) : (∀ x ∈ ds, Fit 3 300 10 x) → Fit (3 + ds.length) (308 * ds.length - 8) (11 * ds.length - 1) d := by
  induction j with
  | one d =>
    intro h
    exact (h d (List.mem_singleton.mpr rfl)).mono (by show 3 ≤ 3 + 1; decide) (by show 300 ≤ 308 * 1 - 8; decide) (by show 10 ≤ 11 * 1 - 1; decide)
  | two j1 j2 h1 h2 =>
    intro h
    have l1 := j1.len
    have l2 := j2.len
    have f := (h1 fun x hx => h x (List.mem_append_left _ hx)).pair (h2 fun x hx => h x (List.mem_append_right _ hx))
    refine f.mono ?_ ?_ ?_
    all_goals rw [List.length_append]; omega
theorem jn_tree {ds : List PyData} {d : PyData} (j : Jn ds d) : ∀ row : List Str, ds = row.map .str → ∃ t : T, d = t.data ∧ t.row = row := by
  induction j with
  | one d =>
    intro row e
    match row, e with
    | [x], e =>
      simp only [List.map_cons, List.map_nil, List.cons.injEq, and_true] at e
      exact ⟨.leaf x, e, rfl⟩
  | two j1 j2 h1 h2 =>
    intro row e
    obtain ⟨r1, r2, rfl, e1, e2⟩ := List.map_eq_append_iff.mp e.symm
    obtain ⟨t1, a1, b1⟩ := h1 r1 e1.symm
    obtain ⟨t2, a2, b2⟩ := h2 r2 e2.symm
    exact ⟨.node t1 t2, by rw [a1, a2]; rfl, by show t1.row ++ t2.row = _; rw [b1, b2]⟩
theorem ixN_nat' {n j : Nat} (h : j < n) : ixN n (j : Int) = some j := by
  unfold ixN
  rw [if_pos (by omega), if_pos (by omega)]
  rfl
/-! ### odd leaves -/
def oddD (y : Str) : List PyData := [.list [], .list [.str y], .tuple [], .tuple [.str y], .tuple [.str y, .str y, .str y], .none, .bool true, .int 1, .str "", .str "nobody", .list [.str "a", .str "b"], .tuple [.tuple [.str y], .str y]]
theorem odd_NB {y : Str} : ∀ d ∈ oddD y, NB d = true := by
  intro d hd
  unfold oddD at hd
  simp only [List.mem_cons, List.not_mem_nil, or_false] at hd
  rcases hd with rfl | rfl | rfl | rfl | rfl | rfl | rfl | rfl | rfl | rfl | rfl | rfl
  all_goals rfl
theorem odd_NBs {y : Str} : NBs (oddD y) = true := rfl
theorem odd_fit {y : Str} (g : Good y) : ∀ d ∈ oddD y, Fit 3 300 10 d := by
  have f := fit_good g
  have fs : ∀ x : Str, x = "nobody" ∨ x = "b" ∨ x = "a" ∨ x = "" → Fit 0 20 1 (PyData.str x) := by
    rintro x (rfl | rfl | rfl | rfl)
    all_goals exact ⟨by decide +kernel, by decide +kernel, by decide +kernel, by decide +kernel, by decide +kernel, by decide +kernel⟩
  intro d hd
  unfold oddD at hd
  simp only [List.mem_cons, List.not_mem_nil, or_false] at hd
  rcases hd with rfl | rfl | rfl | rfl | rfl | rfl | rfl | rfl | rfl | rfl | rfl | rfl
  · exact (FitL.lst .nil).mono (by decide) (by decide) (by decide)
  · exact (FitL.lst (.cons f .nil)).mono (by decide) (by decide) (by decide)
  · exact (FitL.tup .nil).mono (by decide) (by decide) (by decide)
  · exact (FitL.tup (.cons f .nil)).mono (by decide) (by decide) (by decide)
  · exact (FitL.tup (.cons f (.cons f (.cons f .nil)))).mono (by decide) (by decide) (by decide)
  · exact ⟨rfl, rfl, rfl, Nat.zero_le _, by decide +kernel, by decide +kernel⟩
  · exact ⟨rfl, rfl, rfl, Nat.zero_le _, by decide +kernel, by decide +kernel⟩
  · exact ⟨rfl, by decide +kernel, by decide +kernel, Nat.zero_le _, by decide +kernel, by decide +kernel⟩
  · exact (fs _ (.inr (.inr (.inr rfl)))).mono (by decide) (by decide) (by decide)
  · exact (fs _ (.inl rfl)).mono (by decide) (by decide) (by decide)
  · exact (FitL.lst (.cons (fs _ (.inr (.inr (.inl rfl)))) (.cons (fs _ (.inr (.inl rfl))) .nil))).mono (by decide) (by decide) (by decide)
  · exact (FitL.tup (.cons (FitL.tup (.cons f .nil)) (.cons f .nil))).mono (by decide) (by decide) (by decide)
theorem odd_is {y : Str} : ∀ d ∈ oddD y, (d = .str "nobody" ∨ isT d = false) ∧ isT d = PyData.eqv d (.str "nobody") := by
  intro d hd
  unfold oddD at hd
  simp only [List.mem_cons, List.not_mem_nil, or_false] at hd
  rcases hd with rfl | rfl | rfl | rfl | rfl | rfl | rfl | rfl | rfl | rfl | rfl | rfl
  · exact ⟨.inr rfl, rfl⟩
  · exact ⟨.inr rfl, rfl⟩
  · exact ⟨.inr rfl, rfl⟩
  · exact ⟨.inr rfl, rfl⟩
  · exact ⟨.inr rfl, rfl⟩
  · exact ⟨.inr rfl, rfl⟩
  · exact ⟨.inr rfl, rfl⟩
  · exact ⟨.inr rfl, rfl⟩
  · exact ⟨.inr (by show goodB "" = false; decide +kernel), by show goodB "" = _; decide +kernel⟩
  · exact ⟨.inl rfl, by show goodB "nobody" = _; decide +kernel⟩
  · exact ⟨.inr rfl, rfl⟩
  · exact ⟨.inr (by simp [isT, isTAll]), by simp [isT, isTAll, PyData.eqv]⟩
/-! ### _law_tree over data -/
def spTreeD (n : Nat) : Sp := fun vs H Q _ => ∃ (b a : Addr) (xs : List V) (ds : List PyData), vs = [.ref b, .ref a] ∧ Bag H b ∧ H a = some (.lst xs) ∧ a ≠ b ∧ DatAll H xs ds ∧ NBs ds = true ∧ 1 ≤ xs.length ∧ xs.length ≤ n ∧ n ≤ 200 ∧
  ∀ (v : V) (d : PyData) (H' : Hp), DatAt H' v d → NB d = true → Jn ds d → Bag H' b → But b H H' → Q v H'
abbrev sTreeD : Stmt := top 28
abbrev nTreeD : List Str := ["_law_bag_here", "_law_row", "_law_size"]
theorem scTreeD : FnScope nTreeD ["_law_bag_here", "_law_row"] (defScope sTreeD) := ⟨rfl, rfl, rfl, by decide +kernel, rfl, by decide +kernel, by decide +kernel⟩
section
variable {P : Program} {w : World} {K : PySem.W.Frag} {mg : Str → Option Value} {base : Heap}
theorem ok_treeD {f fT : Addr} {fd fdT : FuncData} (F : Fun K "_law_tree" "_law_tree" sTreeD f fd) (b0 : Binds K fd ["_law_bag_here", "_law_row"] []) (m0 : mg "_law_tree" = some (.ref f))
    (GT : FnOk P w K mg base CX0 1 fT fdT ["_law_bag_here", "_law_many"] spTake)
    (bT : Binds K fdT ["_law_bag_here", "_law_many"] []) (mT : mg "_law_take" = some (.ref fT)) (kT : PySem.W.keepIn K (.ref fT) = true) (gLen : mg "len" = none) :
    ∀ n : Nat, FnOk P w K mg base CX0 (n + 1) f fd ["_law_bag_here", "_law_row"] (spTreeD n)
  | 0 => ⟨fun vs H Q E h => (by obtain ⟨b, a, row, ds, rfl, _⟩ := h; rfl), fun A outer s H args us vs Q E _ _ _ _ h => (by obtain ⟨b, a, row, ds, _, _, _, _, _, _, h1, h2, _⟩ := h; omega)⟩
  | n + 1 => by
    have GR := ok_treeD F b0 m0 GT bT mT kT gLen n
    refine F.ok scTreeD (fun vs H Q E h => ?_) (fun cdv A outer s H vs Q E hr h => ?_)
    · obtain ⟨b, a, xs, ds, rfl, _⟩ := h
      rfl
    · obtain ⟨b, a, xs, ds, rfl, hb, ha, nab, da, nb, l1, l2, l3, k⟩ := h
      have hr1 : Room 1 _ := hr.mono (by omega)
      refine ⟨_, pss_cons (ps_if (pt_cmpR op_eq (pe_callB call_len_seq (by rfl) gLen PySem.boot_len (pa_cons (pv 1) pa_nil)) pe_int (nomark _)) (pss_one (ps_ret (pe_ix ix_list (pv 1) pe_int (fun _ _ => rfl)))) pss_nil)
        (pss_cons (ps_set (i := 2) scTreeD.nd rfl (Or.inl rfl) (pe_op op_add pe_int (pe_call GT hr1 rfl mT kT bT .nil pass0 (pa_cons (pv 0) (pa_cons (pe_op op_sub (pe_callB call_len_seq (by rfl) gLen PySem.boot_len (pa_cons (pv 1) pa_nil)) pe_int) pa_nil)))))
        (pss_one (ps_ret (pe_tup (pa_cons (pe_call GR hr rfl m0 F.kp b0 .nil pass0 (pa_cons (pv 0) (pa_cons (pe_slice sl_list (pv 1) po_none (po_some (pv 2))) pa_nil)))
          (pa_cons (pe_call GR hr rfl m0 F.kp b0 .nil pass0 (pa_cons (pv 0) (pa_cons (pe_slice sl_list (pv 1) (po_some (pv 2)) po_none) pa_nil))) pa_nil)))))), ?_⟩
      have dl := datLen da
      refine ⟨_, rfl, a, _, rfl, Or.inl (SqL.of ha), rfl, _, rfl, ?_⟩
      refine ite2 (fun c => ?_) (fun c => ?_)
      · have c2 : xs.length = 1 := by
          have := V.int.inj (of_decide_eq_true c)
          omega
        obtain ⟨x, rfl⟩ := List.length_eq_one_iff.mp c2
        cases da with
        | @cons _ _ d _ hd hr0 =>
        cases hr0
        refine ⟨_, rfl, a, _, _, _, rfl, rfl, SqL.of ha, rfl, ?_⟩
        exact k _ d _ hd (by simpa [NBs] using nb) (.one d) hb (But.refl _ _)
      · have c2 : xs.length ≠ 1 := fun z => c (decide_eq_true (by rw [z]; rfl))
        refine ⟨_, rfl, _, rfl, a, _, rfl, Or.inl (SqL.of ha), _, _, rfl, rfl, b, _, rfl, by omega, by omega, hb, fun r H1 r0 r1 hb1 k1 => ⟨_, _, rfl, rfl, ?_⟩⟩
        have ha1 := k1 a _ ha nab
        have da1 := da.butB hb k1 nb
        obtain ⟨j, rfl⟩ := Int.eq_ofNat_of_zero_le r0
        obtain ⟨z, hz⟩ : ∃ z : Nat, (1 : Int) + (j : Int) = (z : Int) := ⟨1 + j, by omega⟩
        have zl : z < xs.length := by omega
        have z0 : 0 < z := by omega
        have zm : z ≤ xs.length := by omega
        show gName 2 (V.int (1 + (j : Int))) _ _ _
        rw [hz]
        refine ⟨_, rfl, _, rfl, _, rfl, _, rfl, a, _, rfl, SqL.of ha1, fun p hp => ?_⟩
        have nep := hb1.ne hp
        rw [cut_lo _ _ zm]
        have ha1' : upd H1 p (.lst (xs.take z)) a = some (.lst xs) := by rw [upd_ne (ne_of_none ha1 hp)]; exact ha1
        have sp1 := Same.new (o := .lst (xs.take z)) hp
        refine ⟨b, p, xs.take z, ds.take z, rfl, hb1.new nep, upd_same, nep, (datTake z da1).same sp1, NBs_take z nb, ?_, ?_, by omega, fun v1 t1 H2 h1 n1 e1 hb2 k2 => ?_⟩
        · rw [List.length_take]
          omega
        · rw [List.length_take]
          omega
        have ha2 := k2 a _ ha1' nab
        have da2 := (da1.same sp1).butB (hb1.new nep) k2 nb
        refine ⟨_, rfl, _, rfl, _, rfl, _, rfl, a, _, rfl, SqL.of ha2, fun q hq => ?_⟩
        have neq := hb2.ne hq
        rw [cut_hi _ _ zm]
        have sq1 := Same.new (o := .lst (xs.drop z)) hq
        refine ⟨b, q, xs.drop z, ds.drop z, rfl, hb2.new neq, upd_same, neq, (datDrop z da2).same sq1, NBs_drop z nb, ?_, ?_, by omega, fun v2 t2 H3 h2 n2 e2 hb3 k3 => ?_⟩
        · rw [List.length_drop]
          omega
        · rw [List.length_drop]
          omega
        have h1' : DatAt H3 v1 t1 := (h1.same sq1).butB (hb2.new neq) k3 n1
        refine ⟨(by show 2 ≤ sizeLine; decide), fun t ht => ?_⟩
        have s3 := Same.new (o := .tup [v1, v2]) ht
        refine k _ (.tuple [t1, t2]) _ (.tup upd_same (.cons (h1'.same s3) (.cons (h2.same s3) .nil))) ?_ ?_ (hb3.new (hb3.ne ht)) ?_
        · simp only [NB, NBs, n1, n2, Bool.and_self]
        · have := Jn.two e1 e2
          rwa [List.take_append_drop] at this
        · exact k1.trans (((But.new hp).trans k2).trans (((But.new hq).trans k3).trans (But.new ht)))
end
/-! ### rank_of, where it refuses -/
theorem pss_any {X : Cx} {ss : List Stmt} : PSs X ss (fun _ _ _ => False) := ⟨fun _ _ _ _ _ _ h => h.elim⟩
abbrev sRk : Stmt := top 21
abbrev nRk : List Str := ["table", "tree", "tally", "done", "low", "name", "right", "left", "_", "found", "before"]
theorem scRk : FnScope nRk ["table", "tree"] (defScope sRk) := ⟨rfl, rfl, rfl, by decide +kernel, rfl, by decide +kernel, by decide +kernel⟩
section
variable {P : Program} {w : World} {K : PySem.W.Frag} {mg : Str → Option Value} {base : Heap} {CT fTI fTc fCk CN : Addr} {fdTc fdCk : FuncData}
theorem ok_rkX {f : Addr} {fd : FuncData} (F : Fun K "rank_of" "rank_of" sRk f fd) (TT : TbT K mg CT fTI) (GTc : FnOk P w K mg base CX0 1 fTc fdTc ["self"] (spTcl CT)) (bTc : Binds K fdTc ["self"] []) (hTc : Meth K CT "classes" fTc)
    (GCk : FnOk P w K mg base (L2.CX P w) 3 fCk fdCk ["tree", "classes"] (spChkX CN)) (bCk : Binds K fdCk ["tree", "classes"] []) (mCk : mg "_check_tree" = some (.ref fCk)) (kCk : PySem.W.keepIn K (.ref fCk) = true) : FnOk P w K mg base (L2.CX P w) 5 f fd ["table", "tree"] (spOofX CT CN) := by
  refine F.okX scRk (fun vs H Q E h => ?_) (fun cdv A outer s H vs Q E hr h => ?_)
  · obtain ⟨x, v, d, ns, kt, rfl, _⟩ := h
    rfl
  · obtain ⟨x, v, d, ns, kt, rfl, htb, hd, hok, hnd, bad, no⟩ := h
    have r1 : Room 1 _ := hr.mono (by decide)
    have r3 : Room 3 _ := hr.mono (by decide)
    refine ⟨_, (pss_cons (ps_expr (pe_call GCk r3 (by rfl) mCk kCk bCk .nil pass_on (pa_cons (pv 1) (pa_cons (pe_meth0 (pv 0) TT.cl hTc GTc r1 bTc .nil pass0) pa_nil)))) pss_any), ?_⟩
    obtain ⟨dx, _, _, hI, _⟩ := id htb
    exact ⟨_, rfl, _, rfl, x, dx, _, rfl, hI, rfl, x, ns, kt, rfl, htb, fun p H1 s1 np hp => ⟨v, d, p, ns, rfl, hd.same s1, hok, hnd, bad, hp, no.same s1⟩⟩
end
/-! ### _law_told -/
structure ErrT (K : PySem.W.Frag) (mg : Str → Option Value) (CN c2 : Addr) : Prop where
  ec : ExcC K CN
  fc : XfC K CN
  ex : PySem.W.exmOne K (.ref CN) (.ref CN) = some true
  ve : PySem.W.kitOne K (.ref CN) (.type "ValueError") = some true
  ot : PySem.W.kitOne K (.ref CN) (.ref c2) = some false
  m2 : mg "NoRow" = some (.ref c2)
def spTold (CT : Addr) : Sp := fun vs H Q _ => ∃ (i : Int) (x : Addr) (v : V) (d : PyData) (ns : List Str) (kt : List (List Key × V)), vs = [.int i, .ref x, v] ∧ TblAt CT H x ns kt ∧ DatAt H v d ∧ FitW d ∧ badT ns d ∧ ∀ H', Same H H' → Q (.str d.shown) H'
abbrev sTold : Stmt := top 29
abbrev nTold : List Str := ["_law_way", "_law_table", "_law_tree_here", "e"]
theorem scTold : FnScope nTold ["_law_way", "_law_table", "_law_tree_here"] (defScope sTold) := ⟨rfl, rfl, rfl, by decide +kernel, rfl, by decide +kernel, by decide +kernel⟩
section
variable {P : Program} {w : World} {K : PySem.W.Frag} {mg : Str → Option Value} {base : Heap} {CT CN fN c2 : Addr} {qN litN : Str}
theorem ok_told {f fOf fRk : Addr} {fd fdOf fdRk : FuncData} (F : Fun K "_law_told" "_law_told" sTold f fd) (GO : FnOk P w K mg base (L2.CX P w) 5 fOf fdOf ["table", "tree"] (spOofX CT CN)) (bO : Binds K fdOf ["table", "tree"] []) (mO : mg "outcome_of" = some (.ref fOf)) (kO : PySem.W.keepIn K (.ref fOf) = true)
    (GK : FnOk P w K mg base (L2.CX P w) 5 fRk fdRk ["table", "tree"] (spOofX CT CN)) (bK : Binds K fdRk ["table", "tree"] []) (mK : mg "rank_of" = some (.ref fRk)) (kK : PySem.W.keepIn K (.ref fRk) = true)
    (N : TxtF P K mg CN fN qN (Str.ofString "tree") litN "ValueError" "ValueError.__init__" "ValueError.__new__" veT) (mN : mg "NoTree" = some (.ref CN)) (Er : ErrT K mg CN c2)
    (gIsi : mg "isinstance" = none) (gVe : mg "ValueError" = none) (gRepr : mg "repr" = none) : GOk P w K mg base CX0 6 f fd ["_law_way", "_law_table", "_law_tree_here"] (spTold CT) := by
  refine fun_okG F scTold (fun vs H Q E h => ?_) (fun cdv A outer s H vs Q E hg hr h => ?_)
  · obtain ⟨i, x, v, d, ns, kt, rfl, _⟩ := h
    rfl
  · obtain ⟨i, x, v, d, ns, kt, rfl, htb, hd, ⟨fok, fnd, fsh, fsw, fln⟩, bad, k⟩ := h
    have hrU : (A.deeper (envOfC (Str.ofString "_law_told") (defScope sTold) s.heap.objs.size f cdv)).units + 200 < cLine := by have := hr.un; omega
    refine ⟨_, pss_cons (ps_try_as (i := 3) (tb := fun W => tIfS (tTest (tOp rEq (tVar 0) (tC (.int 0)))) (tDrop (tCallS (spOofX CT CN) (WE W) (tCons (tVar 1) (tCons (tVar 2) tNil)))) (tDrop (tCallS (spOofX CT CN) (WE W) (tCons (tVar 1) (tCons (tVar 2) tNil)))))
        (ts := fun a cls d => _) (Wout := fun _ _ _ _ => False) rfl rfl scTold.nd rfl rfl ⟨rfl, by decide, Or.inl mN⟩ takes0
      (fun W pn xe tk _ => pss_one (ps_if (pt_cmpR op_eq (pv 0) pe_int (nomark _)) (pss_one (ps_expr (pe_callS GO hr rfl mO kO bO (fun σ => passAt tk σ) (pa_cons (pv 1) (pa_cons (pv 2) pa_nil))))) (pss_one (ps_expr (pe_callS GK hr rfl mK kK bK (fun σ => passAt tk σ) (pa_cons (pv 1) (pa_cons (pv 2) pa_nil)))))))
      (fun a oe cls d pn hz hf => pss_one (ps_ret (pe_ifExp (PW.pt (pw_and (pt_val (pe_callB (call_isX Er.ec hz hf) (by rfl) gIsi (by decide +kernel) (pa_cons (pv 3) (pa_cons (pe_bltn (v := .ty "ValueError") (by rfl) gVe (by decide +kernel) rfl) pa_nil))))
          (pw_and1 (pt_not (pt_val (pe_callB (call_isX Er.ec hz hf) (by rfl) gIsi (by decide +kernel) (pa_cons (pv 3) (pa_cons (pe_glob rfl Er.m2 (v := .ref c2) rfl) pa_nil))))))))
          (pe_callB (id := "repr") (r := rReprD K) (call_reprDU hg hrU) (by rfl) gRepr (by decide +kernel) (pa_cons (pe_xf Er.fc N.noN hz hf (pv 3)) pa_nil)) pe_str))))
      (pss_one (ps_ret pe_str)), ?_⟩
    refine ⟨_, rfl, rfl, _, rfl, ?_⟩
    refine ite2 (fun _ => ?_) (fun _ => ?_)
    all_goals
      refine ⟨_, rfl, _, rfl, x, v, d, ns, kt, rfl, htb, hd, fok, fnd, bad, fun H1 e s1 he1 => ?_⟩
      refine ⟨true, Er.ex, fun _ a ha => ?_, fun z => by cases z⟩
      have pd1 : (upd H1 e (.xd [(Str.ofString "tree", v)])) e = some (.xd [(Str.ofString "tree", v)]) := upd_same
      have s2 : Same H (upd H1 e (.xd [(Str.ofString "tree", v)])) := s1.trans (Same.new he1)
      generalize hH2 : upd H1 e (.xd [(Str.ofString "tree", v)]) = H2 at ha pd1 s2 ⊢
      refine ⟨_, rfl, .ty "ValueError", _, true, rfl, rfl, .ty _, Er.ve, fun dd e => ?_, _, rfl, ?_⟩
      · cases e
        exact ⟨_, pd1⟩
      refine iteT ?_
      refine ⟨_, rfl, .ref c2, _, false, rfl, rfl, .own c2, Er.ot, fun dd e => ?_, _, rfl, ?_⟩
      · cases e
        exact ⟨_, pd1⟩
      refine iteT ?_
      have dd3 := hd.same s2
      exact ⟨_, rfl, rfl, rfl, e, _, v, rfl, pd1, rfl, _, _, rfl, dd3.dp, fsh, fsw, fln, k _ s2⟩
end
/-! ### law -/
def spLaw (K : PySem.W.Frag) : Sp := fun vs H Q _ => ∃ (a : Addr) (ns : List Int), vs = [.ref a] ∧ SqL K H a (ns.map V.int) ∧ ns.length ≤ 63 ∧ ∀ H', Q (.bl true) H'
abbrev sLaw : Stmt := top 30
abbrev nLaw : List Str := ["_law_script", "_law_at", "_law_bag_here", "_law_names_here", "_law_table", "_law_name", "_law_odd", "_law_turn", "_law_row", "_law_step", "_law_value", "_law_tree_here", "_law_kept"]
theorem scLaw : FnScope nLaw ["_law_script"] (defScope sLaw) := ⟨rfl, rfl, rfl, by decide +kernel, rfl, by decide +kernel, by decide +kernel⟩
section
variable {P : Program} {w : World} {K : PySem.W.Frag} {mg : Str → Option Value} {base : Heap} {CT fTI fB fT fN fS fTr fIt fTo : Addr} {fdTI fdB fdT fdN fdS fdTr fdIt fdTo : FuncData}
theorem ok_law {f : Addr} {fd : FuncData} (F : Fun K "law" "law" sLaw f fd) (TT : TbT K mg CT fTI) (GTi : FnOk P w K mg base CX0 1 fTI fdTI ["self", "classes", "sums"] (spTin CT)) (bTi : Binds K fdTI ["self", "classes", "sums"] [])
    (GB : FnOk P w K mg base CX0 1 fB fdB ["_law_script", "_law_at"] (spBag K)) (bB : Binds K fdB ["_law_script", "_law_at"] []) (mB : mg "_law_bag" = some (.ref fB)) (kB : PySem.W.keepIn K (.ref fB) = true)
    (GT : FnOk P w K mg base CX0 1 fT fdT ["_law_bag_here", "_law_many"] spTake) (bT : Binds K fdT ["_law_bag_here", "_law_many"] []) (mT : mg "_law_take" = some (.ref fT)) (kT : PySem.W.keepIn K (.ref fT) = true)
    (GN : FnOk P w K mg base CX0 2 fN fdN ["_law_bag_here", "_law_many"] spNames) (bN : Binds K fdN ["_law_bag_here", "_law_many"] []) (mN : mg "_law_names" = some (.ref fN)) (kN : PySem.W.keepIn K (.ref fN) = true)
    (GS : FnOk P w K mg base CX0 2 fS fdS ["_law_bag_here", "_law_names_here"] spSms) (bS : Binds K fdS ["_law_bag_here", "_law_names_here"] []) (mS : mg "_law_sums" = some (.ref fS)) (kS : PySem.W.keepIn K (.ref fS) = true)
    (GTr : FnOk P w K mg base CX0 10 fTr fdTr ["_law_bag_here", "_law_row"] (spTreeD 9)) (bTr : Binds K fdTr ["_law_bag_here", "_law_row"] []) (mTr : mg "_law_tree" = some (.ref fTr)) (kTr : PySem.W.keepIn K (.ref fTr) = true)
    (GIt : FnOk P w K mg base CX0 2 fIt fdIt ["value"] spIsTree) (bIt : Binds K fdIt ["value"] []) (mIt : mg "is_tree" = some (.ref fIt)) (kIt : PySem.W.keepIn K (.ref fIt) = true)
    (GTo : GOk P w K mg base CX0 6 fTo fdTo ["_law_way", "_law_table", "_law_tree_here"] (spTold CT)) (bTo : Binds K fdTo ["_law_way", "_law_table", "_law_tree_here"] []) (mTo : mg "_law_told" = some (.ref fTo)) (kTo : PySem.W.keepIn K (.ref fTo) = true)
    (gLen : mg "len" = none) (gRange : mg "range" = none) (gMax : mg "max" = none) (gMin : mg "min" = none) (gTuple : mg "tuple" = none) (gRepr : mg "repr" = none) : GOk P w K mg base CX0 11 f fd ["_law_script"] (spLaw K) := by
  refine fun_okG F scLaw (fun vs H Q E h => ?_) (fun cdv A outer s H vs Q E hg hr h => ?_)
  · obtain ⟨a, ns, rfl, _⟩ := h
    rfl
  · obtain ⟨a, ns, rfl, hS, hlen, k⟩ := h
    have r1 : Room 1 _ := hr.mono (by decide)
    have r2 : Room 2 _ := hr.mono (by decide)
    have r5 : Room 6 _ := hr.mono (by decide)
    have r10 : Room 10 _ := hr
    have hu1 : (A.deeper (envOfC (Str.ofString "law") (defScope sLaw) s.heap.objs.size f cdv)).units + 1 < cLine := by have := hr.un; omega
    refine ⟨_, (pss_cons (ps_for PassesOwn.never rfl (pi_range1 (by rfl) gRange (pa_cons (pe_callB (call_max2 rfl) (by rfl) gMax (by decide +kernel) (pa_cons pe_int (pa_cons (pe_callB (call_min2 rfl) (by rfl) gMin (by decide +kernel) (pa_cons pe_int (pa_cons (pe_callB call_len_seq (by rfl) gLen PySem.boot_len (pa_cons (pv 0) pa_nil)) pa_nil))) pa_nil))) pa_nil)) (pg_name (i := 1) scLaw.nd rfl (Or.inl rfl)) (pss_cons (ps_set (i := 2) scLaw.nd rfl (Or.inr rfl) (pe_call GB r1 (by rfl) mB kB bB .nil pass0 (pa_cons (pv 0) (pa_cons (pv 1) pa_nil))))
      (pss_cons (ps_set (i := 3) scLaw.nd rfl (Or.inr rfl) (pe_call GN r2 (by rfl) mN kN bN .nil pass0 (pa_cons (pv 2) (pa_cons (pe_op op_add pe_int (pe_call GT r1 (by rfl) mT kT bT .nil pass0 (pa_cons (pv 2) (pa_cons pe_int pa_nil)))) pa_nil))))
      (pss_cons (ps_par (i := 4) (j := 5) (by rfl) scLaw.nd rfl rfl (by decide) rfl rfl (pa_cons (pe_make TT.mak GTi r2 rfl TT.m bTi .nil pass0 (pa_cons (pe_callTy call_tuple_of (by rfl) gTuple (by decide +kernel) (pa_cons (pv 3) pa_nil)) (pa_cons (pe_call GS r2 (by rfl) mS kS bS .nil pass0 (pa_cons (pv 2) (pa_cons (pv 3) pa_nil))) pa_nil))) (pa_cons (pe_ix ix_list (pv 3) pe_int (fun _ _ => rfl)) pa_nil)) (by rfl))
      (pss_cons (ps_set (i := 6) scLaw.nd rfl (Or.inl rfl) (pe_lst (pa_cons (pe_lst pa_nil) (pa_cons (pe_lst (pa_cons (pv 5) pa_nil)) (pa_cons (pe_tup pa_nil) (pa_cons (pe_tup (pa_cons (pv 5) pa_nil)) (pa_cons (pe_tup (pa_cons (pv 5) (pa_cons (pv 5) (pa_cons (pv 5) pa_nil)))) (pa_cons pe_non (pa_cons pe_bl (pa_cons pe_int (pa_cons pe_str (pa_cons pe_str (pa_cons (pe_lst (pa_cons pe_str (pa_cons pe_str pa_nil))) (pa_cons (pe_tup (pa_cons (pe_tup (pa_cons (pv 5) pa_nil)) (pa_cons (pv 5) pa_nil))) pa_nil))))))))))))))
      (pss_one (ps_for PassesOwn.never rfl (pi_range1 (by rfl) gRange (pa_cons pe_int pa_nil)) (pg_name (i := 7) scLaw.nd rfl (Or.inl rfl)) (pss_cons (ps_setLc (i := 8) (own := [("_law_step", 9)]) (g := gName 9) (tt := tYes) rfl scLaw.nd rfl rfl (by rfl) (pi_range1 (by rfl) gRange (pa_cons (pe_op op_add pe_int (pe_call GT r1 (by rfl) mT kT bT .nil pass0 (pa_cons (pv 2) (pa_cons pe_int pa_nil)))) pa_nil)) (blkOk_by (N := nLaw) (sc := defScope sLaw) (by decide +kernel)) (fun _ _ _ _ _ => pg_name (i := 9) scLaw.nd rfl (Or.inl rfl)) (fun _ _ _ _ _ => pts_nil) (fun _ _ _ _ _ => pe_ix (r := rIxL K) ix_list (pv 3) (pe_call GT r1 (by rfl) mT kT bT .nil pass0 (pa_cons (pv 2) (pa_cons (pe_callB (r := rLen K) call_lenK (by rfl) gLen PySem.boot_len (pa_cons (pv 3) pa_nil)) pa_nil))) (fun _ _ => rfl)))
      (pss_cons (ps_set (i := 10) scLaw.nd rfl (Or.inl rfl) (pe_ix ix_list (pv 6) (pe_call GT r1 (by rfl) mT kT bT .nil pass0 (pa_cons (pv 2) (pa_cons pe_int pa_nil))) (fun _ _ => rfl)))
      (pss_cons (ps_asg (pv 10) (pg_sub (pv 8) (pe_call GT r1 (by rfl) mT kT bT .nil pass0 (pa_cons (pv 2) (pa_cons (pe_callB call_len_seq (by rfl) gLen PySem.boot_len (pa_cons (pv 8) pa_nil)) pa_nil))) set_list))
      (pss_cons (ps_set (i := 11) scLaw.nd rfl (Or.inl rfl) (pe_call GTr r10 (by rfl) mTr kTr bTr .nil pass0 (pa_cons (pv 2) (pa_cons (pv 8) pa_nil))))
      (pss_cons (ps_set (i := 12) scLaw.nd rfl (Or.inl rfl) (pe_callB (call_reprD hg hr) (by rfl) gRepr (by decide +kernel) (pa_cons (pv 11) pa_nil)))
      (pss_cons (ps_if (PW.pt (pw_or (pt_cmpR op_ne (pe_callG GTo hg r5 (by rfl) mTo kTo bTo (pa_cons pe_int (pa_cons (pv 4) (pa_cons (pv 11) pa_nil)))) (pv 12) (nomark _)) (pw_or1 (pt_cmpR op_ne (pe_callG GTo hg r5 (by rfl) mTo kTo bTo (pa_cons pe_int (pa_cons (pv 4) (pa_cons (pv 11) pa_nil)))) (pv 12) (nomark _))))) (pss_one (ps_ret pe_bl)) pss_nil)
      (pss_one (ps_if (PW.pt (pw_or (pt_cmpR op_ne (pe_callB (call_reprD hg hr) (by rfl) gRepr (by decide +kernel) (pa_cons (pe_call GIt r2 (by rfl) mIt kIt bIt .nil pass0 (pa_cons (pv 11) pa_nil)) pa_nil)) (pe_callB (call_reprD hg hr) (by rfl) gRepr (by decide +kernel) (pa_cons (pe_cmpR (op_eqD hr.units) (pv 10) pe_str (nomark _)) pa_nil)) (nomark _)) (pw_or1 (pt_cmpR op_ne (pe_callB (call_reprD hg hr) (by rfl) gRepr (by decide +kernel) (pa_cons (pv 11) pa_nil)) (pv 12) (nomark _))))) (pss_one (ps_ret pe_bl)) pss_nil)))))))))))))))
      (pss_one (ps_ret pe_bl))), ?_⟩
    have two : ∀ n : Nat, 1 ≤ (if (if (n : Int) < 2 then (n : Int) else 2) > 1 then (if (n : Int) < 2 then (n : Int) else 2) else 1) ∧ (if (if (n : Int) < 2 then (n : Int) else 2) > 1 then (if (n : Int) < 2 then (n : Int) else 2) else 1) ≤ 2 := by
      intro n
      repeat' split
      all_goals omega
    have t2 := two (List.map V.int ns).length
    refine ⟨_, rfl, a, _, rfl, Or.inl hS, _, _, rfl, _, _, rfl, _, rfl, Int.le_trans (by decide) t2.1, Int.lt_of_le_of_lt t2.2 (by decide), ?_⟩
    refine for_range (lo := 0) (fun i σ H1 => (∃ (o1 o2 o3 o4 o5 o6 o7 o8 o9 o10 o11 o12 : Option V), σ = [some (.ref a), o1, o2, o3, o4, o5, o6, o7, o8, o9, o10, o11, o12]) ∧ Same H H1) ⟨⟨none, none, none, none, none, none, none, none, none, none, none, none, rfl⟩, Same.refl H⟩ ?_ ?_
    · rintro i σ H1 hi ⟨⟨o1, o2, o3, o4, o5, o6, o7, o8, o9, o10, o11, o12, rfl⟩, s1⟩
      have i2 : (i : Int) < 2 := by
        have := t2.2
        omega
      clear two t2 hi
      refine ⟨_, rfl, _, rfl, a, ns, _, rfl, s1.seq hS, hlen, by omega, by omega, fun b H2 nb hb2 s2 => ?_⟩
      have nbH : H b = none := s1.free nb
      -- names
      refine ⟨_, rfl, _, rfl, b, 2, rfl, by decide, by decide, hb2, fun r H3 r0 r5 hb3 k3 => ?_⟩
      refine ⟨_, _, rfl, rfl, b, 2 + r, rfl, by omega, by omega, hb3, fun p cs H4 np ln gd hp hb4 k4 => ?_⟩
      have pb : p ≠ b := hb3.ne np
      have s4 := Same.thenBut nbH (s1.trans s2) (k3.trans k4)
      have cn1 : 2 ≤ cs.length := by omega
      have cn6 : cs.length ≤ 6 := by omega
      have csne : cs ≠ [] := fun z => by
        rw [z] at cn1
        simp at cn1
      clear np ln r0 r5 hb2 hb3 k3 k4 s2
      -- the table
      refine ⟨_, rfl, p, _, rfl, Or.inl ⟨SqL.of hp, fun t nt => ?_⟩⟩
      have s5 := Same.new (o := .tup (cs.map V.str)) nt
      have g5 := upd_same (H := H4) (a := t) (o := .tup (cs.map V.str))
      have hb5 := hb4.same s5
      have hp5 := s5 _ _ hp
      have nbt : t ≠ b := hb4.ne nt
      generalize upd H4 t (.tup (cs.map V.str)) = H5 at *
      -- sums
      refine ⟨_, rfl, _, rfl, b, p, cs, rfl, hb5, hp5, pb, by omega, by omega, fun D kvs H6 nD hD sok hb6 k6 => ?_⟩
      have hp6 := k6 _ _ hp5 pb
      have g6 := k6 _ _ g5 nbt
      have s6 := Same.thenBut nbH (s4.trans s5) k6
      refine fun x dx' nx ndx ne => ?_
      have st : Same H6 (upd (upd H6 dx' (.own x)) x (.ins CT dx' [])) := fun c o e => by
        rw [upd_ne (ne_of_none e nx), upd_ne (ne_of_none e ndx)]
        exact e
      refine ⟨x, dx', t, D, cs, kvs, rfl, upd_same, st _ _ g6, st _ _ hD, sok.i.nd, Nat.le_trans sok.l (by decide), fun H7 htb old => ⟨rfl, ?_⟩⟩
      have s67 : Same H6 H7 := fun c o e => old c o (st _ _ e) (ne_of_none e nx)
      have hb7 := hb6.same s67
      have hp7 := s67 _ _ hp6
      have s7 := s6.trans s67
      clear st nx ndx ne old g6 g5 s67 hb6 hp6 hD s6 nt hb4 hp hb5 hp5 s5 s4 k6 nD nbt
      obtain ⟨y0, hy0⟩ : ∃ y, cs[0]? = some y := ⟨_, List.getElem?_eq_getElem (by omega)⟩
      have my0 := List.mem_of_getElem? hy0
      have at0 : atI (cs.map V.str) ((0 : Nat) : Int) = some (V.str y0) := atI_nat (by rw [List.getElem?_map, hy0]; rfl)
      refine ⟨_, rfl, p, _, _, _, rfl, rfl, SqL.of hp7, at0, ?_⟩
      refine ⟨_, _, rfl, ?_⟩
      -- the odd values
      refine ⟨(by show 0 ≤ sizeLine; decide), fun e1 n1 => ?_⟩
      have q1 := Same.new (o := .lst []) n1
      have w1 := upd_same (H := H7) (a := e1) (o := .lst [])
      generalize upd H7 e1 (.lst []) = G1 at *
      refine ⟨_, rfl, (by show 1 ≤ sizeLine; decide), fun e2 n2 => ?_⟩
      have q2 := Same.new (o := .lst [V.str y0]) n2
      have w2 := upd_same (H := G1) (a := e2) (o := .lst [V.str y0])
      generalize upd G1 e2 (.lst [V.str y0]) = G2 at *
      refine ⟨(by show 0 ≤ sizeLine; decide), fun e3 n3 => ?_⟩
      have q3 := Same.new (o := .tup []) n3
      have w3 := upd_same (H := G2) (a := e3) (o := .tup [])
      generalize upd G2 e3 (.tup []) = G3 at *
      refine ⟨_, rfl, (by show 1 ≤ sizeLine; decide), fun e4 n4 => ?_⟩
      have q4 := Same.new (o := .tup [V.str y0]) n4
      have w4 := upd_same (H := G3) (a := e4) (o := .tup [V.str y0])
      generalize upd G3 e4 (.tup [V.str y0]) = G4 at *
      refine ⟨_, rfl, _, rfl, _, rfl, (by show 3 ≤ sizeLine; decide), fun e5 n5 => ?_⟩
      have q5 := Same.new (o := .tup [V.str y0, V.str y0, V.str y0]) n5
      have w5 := upd_same (H := G4) (a := e5) (o := .tup [V.str y0, V.str y0, V.str y0])
      generalize upd G4 e5 (.tup [V.str y0, V.str y0, V.str y0]) = G5 at *
      refine ⟨(by show 2 ≤ sizeLine; decide), fun e6 n6 => ?_⟩
      have q6 := Same.new (o := .lst [V.str "a", .str "b"]) n6
      have w6 := upd_same (H := G5) (a := e6) (o := .lst [V.str "a", .str "b"])
      generalize upd G5 e6 (.lst [V.str "a", .str "b"]) = G6 at *
      refine ⟨_, rfl, (by show 1 ≤ sizeLine; decide), fun e7 n7 => ?_⟩
      have q7 := Same.new (o := .tup [V.str y0]) n7
      have w7 := upd_same (H := G6) (a := e7) (o := .tup [V.str y0])
      generalize upd G6 e7 (.tup [V.str y0]) = G7 at *
      refine ⟨_, rfl, (by show 2 ≤ sizeLine; decide), fun e8 n8 => ?_⟩
      have q8 := Same.new (o := .tup [V.ref e7, V.str y0]) n8
      have w8 := upd_same (H := G7) (a := e8) (o := .tup [V.ref e7, V.str y0])
      generalize upd G7 e8 (.tup [V.ref e7, V.str y0]) = G8 at *
      refine ⟨(by show 12 ≤ sizeLine; decide), fun l n9 => ?_⟩
      have q9 := Same.new (o := .lst [V.ref e1, .ref e2, .ref e3, .ref e4, .ref e5, .non, .bl true, .int 1, .str "", .str "nobody", .ref e6, .ref e8]) n9
      have w9 := upd_same (H := G8) (a := l) (o := .lst [V.ref e1, .ref e2, .ref e3, .ref e4, .ref e5, .non, .bl true, .int 1, .str "", .str "nobody", .ref e6, .ref e8])
      have r8 := q9
      have r7 := q8.trans r8
      have r6 := q7.trans r7
      have r5 := q6.trans r6
      have r4 := q5.trans r5
      have r3 := q4.trans r4
      have r2 := q3.trans r3
      have r1 := q2.trans r2
      have rC := q1.trans r1
      have hb8 := hb7.same rC
      have lb : l ≠ b := (hb7.same (q1.trans (q2.trans (q3.trans (q4.trans (q5.trans (q6.trans (q7.trans q8)))))))).ne n9
      have dall : DatAll (upd G8 l (.lst [V.ref e1, .ref e2, .ref e3, .ref e4, .ref e5, .non, .bl true, .int 1, .str "", .str "nobody", .ref e6, .ref e8])) [V.ref e1, .ref e2, .ref e3, .ref e4, .ref e5, .non, .bl true, .int 1, .str "", .str "nobody", .ref e6, .ref e8] (oddD y0) :=
        .cons (.lst (r1 _ _ w1) .nil) (.cons (.lst (r2 _ _ w2) (.cons (.str _) .nil)) (.cons (.tup (r3 _ _ w3) .nil) (.cons (.tup (r4 _ _ w4) (.cons (.str _) .nil)) (.cons (.tup (r5 _ _ w5) (.cons (.str _) (.cons (.str _) (.cons (.str _) .nil))))
          (.cons .non (.cons (.bl _) (.cons (.int _) (.cons (.str _) (.cons (.str _) (.cons (.lst (r6 _ _ w6) (.cons (.str _) (.cons (.str _) .nil))) (.cons (.tup (r8 _ _ w8) (.cons (.tup (r7 _ _ w7) (.cons (.str _) .nil)) (.cons (.str _) .nil))) .nil)))))))))))
      obtain ⟨ws, ews⟩ : ∃ ws, ws = [V.ref e1, .ref e2, .ref e3, .ref e4, .ref e5, .non, .bl true, .int 1, .str "", .str "nobody", .ref e6, .ref e8] := ⟨_, rfl⟩
      have lws : ws.length = 12 := by rw [ews]; rfl
      rw [← ews] at w9 dall q9 rC hb8 ⊢
      generalize upd G8 l (.lst ws) = H8 at *
      have htb8 := htb.same rC
      have hp8 := rC _ _ hp7
      have s8 := s7.trans rC
      clear ews q1 w1 n1 r1 q2 w2 n2 r2 q3 w3 n3 r3 q4 w4 n4 r4 q5 w5 n5 r5 q6 w6 n6 r6 q7 w7 n7 r7 q8 w8 n8 r8 n9 q9 htb hb7 hp7 s7 rC
      refine ⟨_, rfl, by decide, by decide, ?_⟩
      refine for_range (lo := 0) (fun j σ H' => (∃ (o7 o8 o9 o10 o11 o12 : Option V), σ = [some (.ref a), some (.int (0 + (i : Int))), some (.ref b), some (.ref p), some (.ref x), some (.str y0), some (.ref l), o7, o8, o9, o10, o11, o12]) ∧ Bag H' b ∧ But b H8 H') ⟨⟨_, _, _, _, _, _, rfl⟩, hb8, But.refl _ _⟩ ?_ ?_
      · rintro j σ H9 hj ⟨⟨o7, o8, o9, o10, o11, o12, rfl⟩, hb9, k9⟩
        have hp9 := k9 _ _ hp8 pb
        -- a row
        refine ⟨_, rfl, b, 8, rfl, by decide, by decide, hb9, fun r H10 r0 r1 hb10 k10 => ?_⟩
        refine ⟨_, _, rfl, rfl, _, rfl, by omega, by omega, fun R nR => ?_⟩
        have neR : R ≠ b := hb10.ne nR
        have hp10 := k10 _ _ hp9 pb
        refine lc_range (lo := 0) (n := (2 + r).toNat) (fun m H2 => ∃ acc : List Str, acc.length = m ∧ (∀ x ∈ acc, x ∈ cs) ∧ H2 R = some (.lst (acc.map V.str)) ∧ Bag H2 b ∧ But b H10 H2)
          ⟨[], rfl, by simp, upd_same, hb10.new neR, But.new nR⟩ ?_ ?_
        · intro m H2 hm ⟨acc, e1, e2, e3, e4, e5⟩
          have hp2 := e5 p _ hp10 pb
          refine ⟨rfl, _, rfl, _, rfl, _, rfl, p, _, rfl, Or.inl (SqL.of hp2), b, _, rfl, by rw [List.length_map]; omega, by rw [List.length_map]; omega, e4, fun q H3 q0 q1 hb3 k3 => ?_⟩
          rw [List.length_map] at q1
          obtain ⟨u, rfl⟩ := Int.eq_ofNat_of_zero_le q0
          have c2 : u < cs.length := by omega
          have e : (cs.map V.str)[u]? = some (V.str cs[u]) := by
            rw [List.getElem?_map, List.getElem?_eq_getElem c2]
            rfl
          refine ⟨p, _, _, _, rfl, rfl, SqL.of (k3 p _ hp2 pb), atI_nat e, _, k3 _ _ e3 neR, ?_, acc ++ [cs[u]], by simp [e1], ?_, ?_, hb3.new neR, ?_⟩
          · rw [List.length_map, e1]
            exact small1000 (by omega)
          · intro x hx
            rcases List.mem_append.mp hx with hx | hx
            · exact e2 x hx
            · rw [List.mem_singleton.mp hx]
              exact List.getElem_mem c2
          · rw [upd_same, List.map_append]
            rfl
          · exact But.newer nR (e5.trans k3)
        intro H11 ⟨row, lr, mem, hR, hb11, k11⟩
        have k911 := k10.trans k11
        have k811 := k9.trans k911
        have neL : l ≠ b := lb
        have g11 : H11 l = some (.lst ws) := k811 _ _ w9 neL
        have d10 : DatAll H10 ws (oddD y0) := dall.butB hb8 (k9.trans k10) odd_NBs
        -- the odd one
        refine ⟨_, rfl, _, rfl, b, 12, rfl, by decide, by decide, hb11, fun z H12 z0 z12 hb12 k12 => ?_⟩
        obtain ⟨u, rfl⟩ := Int.eq_ofNat_of_zero_le z0
        obtain ⟨wv, hwv⟩ : ∃ w, ws[u]? = some w := ⟨_, List.getElem?_eq_getElem (by omega)⟩
        obtain ⟨wd, hwd, dw10⟩ := datGet d10 hwv
        have hmem := List.mem_of_getElem? hwd
        have nbw := odd_NB wd hmem
        refine ⟨l, _, _, _, rfl, rfl, SqL.of (k12 _ _ g11 neL), atI_nat hwv, ?_⟩
        have hR12 := k12 _ _ hR neR
        refine ⟨_, rfl, _, rfl, _, rfl, _, rfl, R, _, rfl, Or.inl (SqL.of hR12), b, _, rfl, by rw [List.length_map]; omega, by rw [List.length_map]; omega, hb12, fun q H13 q0 q1 hb13 k13 => ?_⟩
        obtain ⟨jj, rfl⟩ := Int.eq_ofNat_of_zero_le q0
        rw [List.length_map] at q1
        have jl : jj < (row.map V.str).length := by rw [List.length_map]; omega
        refine ⟨R, _, (jj : Int), jj, rfl, rfl, k13 _ _ hR12 neR, ixN_nat' jl, ?_⟩
        have hR13 := k13 _ _ hR12 neR
        have k14 := But.newer (o := .lst ((row.map V.str).set jj wv)) nR ((k11.trans k12).trans k13)
        have hb14 : Bag (upd H13 R (.lst ((row.map V.str).set jj wv))) b := hb13.new neR
        have hR14 := upd_same (H := H13) (a := R) (o := .lst ((row.map V.str).set jj wv))
        generalize upd H13 R (.lst ((row.map V.str).set jj wv)) = H14 at *
        have dw14 := dw10.butB hb10 k14 nbw
        have dr14 := datSet dw14 jj (names_dat (H := H14) row)
        have nr14 := NBs_set jj (NBs_names row) nbw
        have k814 := (k9.trans k10).trans k14
        have htb14 := tbl_but htb8 hb8 k814 csne
        have lset : ((row.map V.str).set jj wv).length = row.length := by rw [List.length_set, List.length_map]
        clear k11 k12 k13 k911 k811 g11 hR12 hR13 hb11 hb12 hb13 hR hp10 d10 k10 k14
        refine ⟨_, rfl, _, rfl, b, R, _, _, rfl, hb14, hR14, neR, dr14, nr14, by omega, by omega, by decide, fun v td H15 dv nbd jn hb15 k15 => ?_⟩
        have k815 := k814.trans k15
        have htb15 := tbl_but htb8 hb8 k815 csne
        have dw15 := dw14.butB hb14 k15 nbw
        have gds : ∀ e ∈ (row.map PyData.str).set jj wd, Fit 3 300 10 e := fun e he => by
          rcases List.mem_or_eq_of_mem_set he with he | rfl
          · obtain ⟨nm, hn, rfl⟩ := List.mem_map.mp he
            exact (fit_good (gd nm (mem nm hn))).mono (by decide) (by decide) (by decide)
          · exact odd_fit (gd y0 my0) _ hmem
        have fj := jn_fit jn gds
        rw [List.length_set, List.length_map] at fj
        have fw : FitW td := fj.w (by omega) (by omega) (by omega)
        have hj2 : jj < (row.map PyData.str).length := by rw [List.length_map]; omega
        have eT : isT td = isT wd := by
          rw [jn_isT jn]
          exact all_set isT wd _ jj hj2 fun e he => by
            obtain ⟨nm, hn, rfl⟩ := List.mem_map.mp he
            exact good_B (gd nm (mem nm hn))
        obtain ⟨oc, oe⟩ := odd_is wd hmem
        have bad : badT cs td := by
          rcases oc with rfl | oc
          · have es : (row.map PyData.str).set jj (.str "nobody") = (row.set jj "nobody").map .str := by rw [List.map_set]
            obtain ⟨tt, e1, e2⟩ := jn_tree jn _ es
            have mn : ("nobody" : Str) ∈ tt.row := by
              rw [e2]
              exact List.mem_set (by omega) _
            have sz := tt.size_row
            rw [e2, List.length_set] at sz
            refine .inr ⟨tt, e1, ?_, by omega, "nobody", mn, fun h => (gd _ h).nb rfl⟩
            rw [← isT_row, ← e1, eT]
            show goodB "nobody" = true
            decide +kernel
          · exact .inl (by rw [eT, oc])
        obtain ⟨fok, fnd, fsh, fsw, fln⟩ := id fw
        refine ⟨_, rfl, _, _, rfl, dv.dp, fsh, fsw, fln, ?_⟩
        refine ⟨_, rfl, _, rfl, 0, x, v, td, cs, dropN kvs, rfl, htb15, dv, fw, bad, fun H16 s16 => ⟨_, rfl, rfl, _, rfl, ?_⟩⟩
        rw [decide_eq_true rfl]
        refine iteF ?_
        refine ⟨_, rfl, _, rfl, 1, x, v, td, cs, dropN kvs, rfl, htb15.same s16, dv.same s16, fw, bad, fun H17 s17 => ⟨_, rfl, rfl, _, rfl, ?_⟩⟩
        rw [decide_eq_true rfl]
        refine iteF ?_
        have s1517 := s16.trans s17
        refine ⟨_, rfl, v, td, rfl, dv.same s1517, fok, fnd, fun H18 s18 => ?_⟩
        have s1518 := s1517.trans s18
        refine ⟨_, _, rfl, .bl _, rfl, rfl, by cases isT td <;> decide +kernel, ?_⟩
        have dwE := dw15.same s1518
        have fwd := (odd_fit (gd y0 my0) wd hmem).w (by decide) (by decide) (by decide)
        refine ⟨_, rfl, wd, .str "nobody", dwE.dp, .str _, fwd.2.2.1, by decide +kernel, ?_⟩
        refine ⟨_, _, rfl, .bl _, rfl, rfl, by cases PyData.eqv wd (.str "nobody") <;> decide +kernel, rfl, _, rfl, ?_⟩
        rw [eT, oe, decide_eq_true rfl]
        refine iteF ?_
        refine ⟨_, rfl, _, _, rfl, (dv.same s1518).dp, fsh, fsw, fln, _, rfl, rfl, _, rfl, ?_⟩
        rw [decide_eq_true rfl]
        refine iteF ?_
        exact ⟨⟨_, _, _, _, _, _, rfl⟩, hb15.same s1518, k815.trans (Same.but b s1518)⟩
      · rintro σ H9 ⟨⟨o7, o8, o9, o10, o11, o12, rfl⟩, hb9, k9⟩
        exact ⟨⟨_, _, _, _, _, _, _, _, _, _, _, _, rfl⟩, Same.thenBut nbH s8 k9⟩
    · rintro σ H1 ⟨_, s1⟩
      exact k _
end
end K89
/-! the error classes of the module: what the written part says of each -/
namespace VT
open PySem PySem.Spec PyProof.Rows L2 Vr VB VY VZ VV PySem.HandSPX
/-! ### the classes of the module, in the order of the law's list -/
def nmOf : Fin 12 → Str
  | 0 => "NoBook" | 1 => "NoChange" | 2 => "NoClaim" | 3 => "NoClass" | 4 => "NoCommand" | 5 => "NoOutcome" | 6 => "NoPattern" | 7 => "NoRank" | 8 => "NoRow" | 9 => "NoText" | 10 => "NoTree" | 11 => "NothingToUndo"
def bOf : Fin 12 → String
  | 0 => "ValueError" | 1 => "ArithmeticError" | 2 => "ValueError" | 3 => "KeyError" | 4 => "TypeError" | 5 => "LookupError" | 6 => "ValueError" | 7 => "IndexError" | 8 => "ValueError" | 9 => "ValueError" | 10 => "ValueError" | 11 => "RuntimeError"
def bmOf : Fin 12 → List Value
  | 0 => veT | 1 => aeTail | 2 => veT | 3 => keTail | 4 => teTail | 5 => leTail | 6 => veT | 7 => ieTail | 8 => veT | 9 => veT | 10 => veT | 11 => reTail
def fOf : Fin 12 → Str
  | 0 => "position" | 1 => "change" | 2 => "claim" | 3 => "name" | 4 => "" | 5 => "outcome" | 6 => "pattern" | 7 => "rank" | 8 => "row" | 9 => "position" | 10 => "tree" | 11 => ""
/-- what the written part says of the class at C -/
structure Own (K : PySem.W.Frag) (mg : Str → Option Value) (i : Fin 12) (C : Addr) : Prop where
  m : mg (nmOf i) = some (.ref C)
  ec : ExcC K C
  xf : XfC K C
  cl : ∃ cd, PySem.W.clsIn K C = some cd ∧ cd.mro = .ref C :: bmOf i ∧ cd.name = nmOf i
  ty : PySem.W.typeIn K (.ref C) = some (.type "type")
/-- one with a field -/
structure OwnF (P : Program) (K : PySem.W.Frag) (mg : Str → Option Value) (i : Fin 12) (C : Addr) : Prop where
  tx : ∃ (fI : Addr) (qual lit : Str) (ini newId : String), TxtF P K mg C fI qual (fOf i) lit (bOf i) ini newId (bmOf i) ∧ Base (bOf i) ini newId (bmOf i)
/-- one without -/
structure Own0 (P : Program) (K : PySem.W.Frag) (mg : Str → Option Value) (i : Fin 12) (C : Addr) : Prop where
  tx : ∃ (fI : Addr) (qual : Str) (ini newId : String), Txt0 P K mg C fI qual (bOf i) ini newId (bmOf i) ∧ Base (bOf i) ini newId (bmOf i)
structure Mod12 (P : Program) (K : PySem.W.Frag) (mg : Str → Option Value) (c : Fin 12 → Addr) : Prop where
  own : ∀ i, Own K mg i (c i)
  fld : ∀ i, i ≠ 4 → i ≠ 11 → OwnF P K mg i (c i)
  non : ∀ i, i = 4 ∨ i = 11 → Own0 P K mg i (c i)
theorem bm_noRef (D : Addr) (i : Fin 12) : (bmOf i).contains (.ref D) = false := by
  have e : ∀ l : List String, (l.map Value.type).contains (Value.ref D) = false := by
    intro l
    induction l with
    | nil => rfl
    | cons x l ih =>
      rw [List.map_cons, List.contains_cons, ih]
      rfl
  match i with
  | 0 => exact e ["ValueError", "Exception", "BaseException", "object"]
  | 1 => exact e ["ArithmeticError", "Exception", "BaseException", "object"]
  | 2 => exact e ["ValueError", "Exception", "BaseException", "object"]
  | 3 => exact e ["KeyError", "LookupError", "Exception", "BaseException", "object"]
  | 4 => exact e ["TypeError", "Exception", "BaseException", "object"]
  | 5 => exact e ["LookupError", "Exception", "BaseException", "object"]
  | 6 => exact e ["ValueError", "Exception", "BaseException", "object"]
  | 7 => exact e ["IndexError", "LookupError", "Exception", "BaseException", "object"]
  | 8 => exact e ["ValueError", "Exception", "BaseException", "object"]
  | 9 => exact e ["ValueError", "Exception", "BaseException", "object"]
  | 10 => exact e ["ValueError", "Exception", "BaseException", "object"]
  | 11 => exact e ["RuntimeError", "Exception", "BaseException", "object"]
theorem nm_inj : ∀ i j : Fin 12, nmOf i = nmOf j → i = j := by decide +kernel
section
open PySem.W
variable {P : Program} {K : PySem.W.Frag} {mg : Str → Option Value} {c : Fin 12 → Addr}
theorem Own.mro {i : Fin 12} {C : Addr} (T : Own K mg i C) (b : Value) : mroIn K C b = some ((Value.ref C :: bmOf i).contains b) := by
  obtain ⟨cd, h1, h2, _⟩ := T.cl
  unfold mroIn
  rw [h1, Option.bind_some, h2]
  rfl
theorem Own.kit {i j : Fin 12} {C D : Addr} (T : Own K mg i C) (U : Own K mg j D) : kitOne K (.ref C) (.ref D) = some (decide (i = j)) := by
  by_cases e : C = D
  · subst e
    obtain ⟨cd, h1, _, h2⟩ := T.cl
    obtain ⟨cd', h3, _, h4⟩ := U.cl
    have e2 := h1.symm.trans h3
    cases e2
    have e3 := nm_inj i j (h2.symm.trans h4)
    subst e3
    unfold kitOne
    simp
  · have ne : i ≠ j := fun z => e (by
      subst z
      have z := T.m.symm.trans U.m
      cases z
      rfl)
    have e1 : ((Value.ref C) == .ref D) = false := by simp [e]
    have e2 : ((clsIn K D).isSome && typeIn K (.ref D) == some (.type "type")) = true := by
      obtain ⟨cd, h1, _⟩ := U.cl
      rw [h1, U.ty] <;> rfl
    unfold kitOne kitCls
    rw [e1, if_neg Bool.false_ne_true]
    dsimp only
    rw [if_pos e2]
    show mroIn K C _ = _
    rw [T.mro, List.contains_cons, bm_noRef]
    have e3 : ((Value.ref D) == .ref C) = false := by simp [Ne.symm e]
    rw [e3]
    simp [ne]
theorem Own.kitT {i : Fin 12} {C : Addr} (T : Own K mg i C) {B : String} (hB : kitMeta B = true) : kitOne K (.ref C) (.type B) = some ((bmOf i).contains (.type B)) := by
  have e1 : ((Value.ref C) == .type B) = false := rfl
  unfold kitOne kitCls
  rw [e1, if_neg Bool.false_ne_true]
  dsimp only
  rw [if_pos hB]
  show mroIn K C _ = _
  rw [T.mro, List.contains_cons]
  rfl
end
open PySem.W
structure BaseS (B iid newId : String) (bm : List Value) : Prop extends Base B iid newId bm where
  up : ∀ {K : Frag} {C N : Addr} {nm q : Str} {bs : List Value} {sn : List Str} {sub : List Value} {ab : Bool} {col : Option Bool} {dd : Option Addr} {m0 m1 m2 m3 m5 : Option Value},
    K.lookup C = some (excClassObj nm q C N bs bm true sn sub ab col dd m0 m1 m2 m3 m5 newId) → ks_superIn K C C "__init__" = some (some (.builtin iid))
  be : bm.contains (.type "BaseException") = true
  bb : bm.contains (.type B) = true
  tl : excTail bm bm = true
section
variable {K : Frag} {C N : Addr} {nm q : Str} {bs bm : List Value} {sn : List Str} {sub : List Value} {ab : Bool} {col : Option Bool} {dd : Option Addr} {m0 m1 m2 m3 m5 : Option Value} {newId : String}
theorem x_cl (x : K.lookup C = some (excClassObj nm q C N bs bm true sn sub ab col dd m0 m1 m2 m3 m5 newId)) : ∃ cd, clsIn K C = some cd ∧ cd.mro = .ref C :: bm ∧ cd.name = nm ∧ cd.hasDict = true := by
  unfold clsIn
  rw [x]
  exact ⟨_, rfl, rfl, rfl, rfl⟩
theorem x_mro (x : K.lookup C = some (excClassObj nm q C N bs bm true sn sub ab col dd m0 m1 m2 m3 m5 newId)) (b : Value) : mroIn K C b = some ((Value.ref C :: bm).contains b) := by
  obtain ⟨cd, h1, h2, _⟩ := x_cl x
  unfold mroIn
  rw [h1, Option.bind_some, h2]
  rfl
theorem x_hd (x : K.lookup C = some (excClassObj nm q C N bs bm true sn sub ab col dd m0 m1 m2 m3 m5 newId)) : hasDictIn K C = true := by
  obtain ⟨cd, h1, _, _, h2⟩ := x_cl x
  unfold hasDictIn
  rw [h1]
  exact h2
theorem x_ty (x : K.lookup C = some (excClassObj nm q C N bs bm true sn sub ab col dd m0 m1 m2 m3 m5 newId)) : typeIn K (.ref C) = some (.type "type") := by
  unfold typeIn
  dsimp only
  rw [x]
  rfl
end
theorem sbVE : BaseS "ValueError" "ValueError.__init__" "ValueError.__new__" veT where
  toBase := bVE
  up := fun {K C N nm q bs sn sub ab col dd m0 m1 m2 m3 m5} x => by
    obtain ⟨cd, hcl, hm, _⟩ := x_cl x
    unfold ks_superIn
    rw [hcl, Option.bind_some, hm]
    have e : ∀ l : List Value, List.drop 1 (List.dropWhile (fun x => x != Value.ref C) (Value.ref C :: l)) = l := fun l => by simp
    rw [e]
    kernel_rfl
  be := by decide +kernel
  bb := by decide +kernel
  tl := by decide +kernel
theorem sbLE : BaseS "LookupError" "LookupError.__init__" "LookupError.__new__" leTail where
  toBase := bLE
  up := fun {K C N nm q bs sn sub ab col dd m0 m1 m2 m3 m5} x => by
    obtain ⟨cd, hcl, hm, _⟩ := x_cl x
    unfold ks_superIn
    rw [hcl, Option.bind_some, hm]
    have e : ∀ l : List Value, List.drop 1 (List.dropWhile (fun x => x != Value.ref C) (Value.ref C :: l)) = l := fun l => by simp
    rw [e]
    kernel_rfl
  be := by decide +kernel
  bb := by decide +kernel
  tl := by decide +kernel
theorem sbIE : BaseS "IndexError" "IndexError.__init__" "IndexError.__new__" ieTail where
  toBase := bIE
  up := fun {K C N nm q bs sn sub ab col dd m0 m1 m2 m3 m5} x => by
    obtain ⟨cd, hcl, hm, _⟩ := x_cl x
    unfold ks_superIn
    rw [hcl, Option.bind_some, hm]
    have e : ∀ l : List Value, List.drop 1 (List.dropWhile (fun x => x != Value.ref C) (Value.ref C :: l)) = l := fun l => by simp
    rw [e]
    kernel_rfl
  be := by decide +kernel
  bb := by decide +kernel
  tl := by decide +kernel
theorem sbAE : BaseS "ArithmeticError" "ArithmeticError.__init__" "ArithmeticError.__new__" aeTail where
  toBase := bAE
  up := fun {K C N nm q bs sn sub ab col dd m0 m1 m2 m3 m5} x => by
    obtain ⟨cd, hcl, hm, _⟩ := x_cl x
    unfold ks_superIn
    rw [hcl, Option.bind_some, hm]
    have e : ∀ l : List Value, List.drop 1 (List.dropWhile (fun x => x != Value.ref C) (Value.ref C :: l)) = l := fun l => by simp
    rw [e]
    kernel_rfl
  be := by decide +kernel
  bb := by decide +kernel
  tl := by decide +kernel
theorem sbTE : BaseS "TypeError" "TypeError.__init__" "TypeError.__new__" teTail where
  toBase := bTE
  up := fun {K C N nm q bs sn sub ab col dd m0 m1 m2 m3 m5} x => by
    obtain ⟨cd, hcl, hm, _⟩ := x_cl x
    unfold ks_superIn
    rw [hcl, Option.bind_some, hm]
    have e : ∀ l : List Value, List.drop 1 (List.dropWhile (fun x => x != Value.ref C) (Value.ref C :: l)) = l := fun l => by simp
    rw [e]
    kernel_rfl
  be := by decide +kernel
  bb := by decide +kernel
  tl := by decide +kernel
theorem sbRE : BaseS "RuntimeError" "RuntimeError.__init__" "RuntimeError.__new__" reTail where
  toBase := bRE
  up := fun {K C N nm q bs sn sub ab col dd m0 m1 m2 m3 m5} x => by
    obtain ⟨cd, hcl, hm, _⟩ := x_cl x
    unfold ks_superIn
    rw [hcl, Option.bind_some, hm]
    have e : ∀ l : List Value, List.drop 1 (List.dropWhile (fun x => x != Value.ref C) (Value.ref C :: l)) = l := fun l => by simp
    rw [e]
    kernel_rfl
  be := by decide +kernel
  bb := by decide +kernel
  tl := by decide +kernel
theorem sbKE : BaseS "KeyError" "KeyError.__init__" "LookupError.__new__" keTail where
  toBase := bKE
  up := fun {K C N nm q bs sn sub ab col dd m0 m1 m2 m3 m5} x => by
    obtain ⟨cd, hcl, hm, _⟩ := x_cl x
    unfold ks_superIn
    rw [hcl, Option.bind_some, hm]
    have e : ∀ l : List Value, List.drop 1 (List.dropWhile (fun x => x != Value.ref C) (Value.ref C :: l)) = l := fun l => by simp
    rw [e]
    kernel_rfl
  be := by decide +kernel
  bb := by decide +kernel
  tl := by decide +kernel
theorem ownF_mk {P : Program} {K : Frag} {h : Heap} {mg : Str → Option Value} (X : K.In h) (G : h.Ns mainGlobals mg) (i : Fin 12) {n f qual lit : Str} {B ini newId : String} {bm : List Value}
    (hn : nmOf i = n) (hf : fOf i = f) (hB : bOf i = B) (hbm : bmOf i = bm) (BF : BaseS B ini newId bm)
    (tp : nsIn K cStatics "thirdparty.any" = some none) (su : nsIn K mainGlobals "super" = some none) (pt : (P.main.scope.names.lookup ("super" : Str)).isSome = false)
    (hs : specialIn K (.builtin "object.__class__") "__get__" = some (some (.builtin "getset_descriptor.__get__"))) (ht : takesIn K (.builtin "object.__class__") = some true)
    {C fI cda cc N : Addr} {q file : Str} {bs : List Value} {sn : List Str} {sub : List Value} {ab : Bool} {col : Option Bool} {dd odI anI cld cdd : Option Addr} {m0 m1 m2 m3 m5 : Option Value} {slI csl ccs : Array (Option Value)} {vs : Array Value} {ocI dcI pmI ctI cl ccl : Value} {tf : Tok}
    (a : nsIn K mainGlobals n = some (some (.ref C)))
    (x : K.lookup C = some (excClassObj n q C N bs bm true sn sub ab col dd m0 m1 m2 m3 m5 newId))
    (sa : findIn K (.ref C) "__setattr__" = some (some (.builtin "object.__setattr__")))
    (no : findIn K (.ref C) f = some none)
    (ga : findIn K (.ref C) "__getattribute__" = some (some (.builtin "BaseException.__getattribute__")))
    (gg : findIn K (.ref C) "__getattr__" = some none)
    (ic : findIn K (.ref C) "__init__" = some (some (.ref fI)))
    (tc : typeIn K (.ref fI) = some (.type "function"))
    (kc : keepIn K (.ref C) = true)
    (ha : findIn K (.ref C) "__class__" = some (some (.builtin "object.__class__")))
    (bd : ∀ (B : List Stmt) (p1 p2 : Pos) (doc pm : Value) (an : Option Addr) (cdv ct : Value) (cc : Addr) (a v : Value), bindArgs (ksFn "__init__" qual (nA f p1 p2) B (nS f) .none .none doc pm an cdv ct cc) ⟨[a, v], []⟩ = pure [(("self" : Str), a), (f, v)])
    (bk : ∀ (B : List Stmt) (p1 p2 : Pos) (doc pm : Value) (an : Option Addr) (cdv ct : Value) (cc : Addr) (a v : Value), bindArgs (ksFn "__init__" qual (nA f p1 p2) B (nS f) .none .none doc pm an cdv ct cc) ⟨[a], [(f, v)]⟩ = pure [(("self" : Str), a), (f, v)])
    (lk : (nS f).names.lookup ("self" : Str) = some .local ∧ (nS f).names.lookup f = some .local ∧ (nS f).names.lookup ("__class__" : Str) = some .free ∧ (nS f).names.lookup ("super" : Str) = some .globalImplicit)
    (sf : (("self" : Str) == f) = false) (db : (f == ("__debug__" : Str)) = false)
    {p1 p2 q1 q2 q3 q4 q5 q6 q7 q8 q9 qa : Pos}
    (lI : K.lookup fI = some ⟨ocI, odI, .func (ksFn "__init__" qual (nA f p1 p2) (nB f lit q1 q2 q3 q4 q5 q6 q7 q8 q9 qa) (nS f) .none .none dcI pmI anI (.ref cda) ctI cc), slI⟩)
    (hq : (q3.endLine == q5.line) = true)
    (cI : codeIn K (.ref cda) qual = true)
    (lc : K.lookup cc = some ⟨cl, cld, .cell (some (.ref C)), csl⟩)
    (ld : K.lookup cda = some ⟨ccl, cdd, .fields vs, ccs⟩)
    (lv : vs[2]? = some (.str file tf))
    (lf : ((P.main.file : Str) == file) = true) : ∃ C fI, Own K mg i C ∧ TxtF P K mg C fI qual f lit B ini newId bm := by
  have xb : subIn K (.ref C) (.type "BaseException") = some true := by
    show mroIn K C _ = _
    rw [x_mro x, List.contains_cons, BF.be, Bool.or_true]
  have hd := x_hd x
  obtain ⟨cd, h1, h2, h3, _⟩ := x_cl x
  have O : Own K mg i C := { m := by rw [hn]; exact mg_of X G a, ec := ⟨ga, gg, xb, hd, ha, hs, ht, by rw [x_mro x, List.contains_cons, BF.ob, Bool.or_true]⟩, xf := ⟨ga, gg, xb, hd⟩, cl := ⟨cd, h1, by rw [hbm]; exact h2, by rw [hn]; exact h3⟩, ty := x_ty x }
  have TC : TxtC P K C fI B ini newId bm :=
    { cls := ⟨n, q, N, bs, bm, sn, sub, ab, col, dd, m0, m1, m2, m3, m5, x, BF.tl⟩, iC := ic, tC := tc, kC := kc, exC := xb, tyC := x_ty x,
      beC := by
        show mroIn K C _ = _
        rw [x_mro x, List.contains_cons, BF.bb, Bool.or_true]
      up := BF.up x, me := by rw [x_mro x, List.contains_cons]; simp, tp := tp, sup := su, top := pt }
  refine ⟨C, fI, O, ?_⟩
  exact { TC with sa := sa, noN := no, bd := bd, bk := bk, lk := lk, sf := sf, db := db, fn := ⟨ocI, odI, dcI, pmI, anI, cda, cc, ctI, slI, p1, p2, q1, q2, q3, q4, q5, q6, q7, q8, q9, qa, lI, cI, hq, ⟨cl, cld, csl, lc⟩, ⟨ccl, cdd, vs, ccs, file, tf, ld, lv, lf⟩⟩ }
end VT
namespace K89
open PySem PySem.Spec PyProof.Rows L2 Vr BK
theorem all_mk {P : Program} {w : World} {K : PySem.W.Frag} {h : Heap} {mg : Str → Option Value} {fa : Addr} (X : K.In h) (G : h.Ns mainGlobals mg) (hfa : mg "law" = some (.ref fa))
    {fNa : Addr} {odNa anNa : Option Addr} {slNa : Array (Option Value)} {ocNa kVNa dcNa pmNa cdNa ctNa : Value}
    (aNa : PySem.W.nsIn K mainGlobals "is_name" = some (some (.ref fNa)))
    (lNa : K.lookup fNa = some ⟨ocNa, odNa, .func (PySem.W.fnOf "is_name" "is_name" (defArgs sName) (defBody sName) (defScope sName) .none kVNa dcNa pmNa anNa cdNa ctNa), slNa⟩)
    (cNa : PySem.W.codeIn K cdNa "is_name" = true) (kNa : PySem.W.keepIn K (.ref fNa) = true)
    {fIt : Addr} {odIt anIt : Option Addr} {slIt : Array (Option Value)} {ocIt kVIt dcIt pmIt cdIt ctIt : Value}
    (aIt : PySem.W.nsIn K mainGlobals "is_tree" = some (some (.ref fIt)))
    (lIt : K.lookup fIt = some ⟨ocIt, odIt, .func (PySem.W.fnOf "is_tree" "is_tree" (defArgs sIsTree) (defBody sIsTree) (defScope sIsTree) .none kVIt dcIt pmIt anIt cdIt ctIt), slIt⟩)
    (cIt : PySem.W.codeIn K cdIt "is_tree" = true) (kIt : PySem.W.keepIn K (.ref fIt) = true)
    {fPf : Addr} {odPf anPf : Option Addr} {slPf : Array (Option Value)} {ocPf kVPf dcPf pmPf cdPf ctPf : Value}
    (aPf : PySem.W.nsIn K mainGlobals "in_postfix" = some (some (.ref fPf)))
    (lPf : K.lookup fPf = some ⟨ocPf, odPf, .func (PySem.W.fnOf "in_postfix" "in_postfix" (defArgs sPost) (defBody sPost) (defScope sPost) .none kVPf dcPf pmPf anPf cdPf ctPf), slPf⟩)
    (cPf : PySem.W.codeIn K cdPf "in_postfix" = true) (kPf : PySem.W.keepIn K (.ref fPf) = true)
    {fLv : Addr} {odLv anLv : Option Addr} {slLv : Array (Option Value)} {ocLv kVLv dcLv pmLv cdLv ctLv : Value}
    (aLv : PySem.W.nsIn K mainGlobals "leaves" = some (some (.ref fLv)))
    (lLv : K.lookup fLv = some ⟨ocLv, odLv, .func (PySem.W.fnOf "leaves" "leaves" (defArgs sLeaves) (defBody sLeaves) (defScope sLeaves) .none kVLv dcLv pmLv anLv cdLv ctLv), slLv⟩)
    (cLv : PySem.W.codeIn K cdLv "leaves" = true) (kLv : PySem.W.keepIn K (.ref fLv) = true)
    {fBa : Addr} {odBa anBa : Option Addr} {slBa : Array (Option Value)} {ocBa kVBa dcBa pmBa cdBa ctBa : Value}
    (aBa : PySem.W.nsIn K mainGlobals "_law_bag" = some (some (.ref fBa)))
    (lBa : K.lookup fBa = some ⟨ocBa, odBa, .func (PySem.W.fnOf "_law_bag" "_law_bag" (defArgs sBag) (defBody sBag) (defScope sBag) .none kVBa dcBa pmBa anBa cdBa ctBa), slBa⟩)
    (cBa : PySem.W.codeIn K cdBa "_law_bag" = true) (kBa : PySem.W.keepIn K (.ref fBa) = true)
    {fTa : Addr} {odTa anTa : Option Addr} {slTa : Array (Option Value)} {ocTa kVTa dcTa pmTa cdTa ctTa : Value}
    (aTa : PySem.W.nsIn K mainGlobals "_law_take" = some (some (.ref fTa)))
    (lTa : K.lookup fTa = some ⟨ocTa, odTa, .func (PySem.W.fnOf "_law_take" "_law_take" (defArgs sTake) (defBody sTake) (defScope sTake) .none kVTa dcTa pmTa anTa cdTa ctTa), slTa⟩)
    (cTa : PySem.W.codeIn K cdTa "_law_take" = true) (kTa : PySem.W.keepIn K (.ref fTa) = true)
    {fNm : Addr} {odNm anNm : Option Addr} {slNm : Array (Option Value)} {ocNm kVNm dcNm pmNm cdNm ctNm : Value}
    (aNm : PySem.W.nsIn K mainGlobals "_law_names" = some (some (.ref fNm)))
    (lNm : K.lookup fNm = some ⟨ocNm, odNm, .func (PySem.W.fnOf "_law_names" "_law_names" (defArgs sNames) (defBody sNames) (defScope sNames) .none kVNm dcNm pmNm anNm cdNm ctNm), slNm⟩)
    (cNm : PySem.W.codeIn K cdNm "_law_names" = true) (kNm : PySem.W.keepIn K (.ref fNm) = true)
    {fSm : Addr} {odSm anSm : Option Addr} {slSm : Array (Option Value)} {ocSm kVSm dcSm pmSm cdSm ctSm : Value}
    (aSm : PySem.W.nsIn K mainGlobals "_law_sums" = some (some (.ref fSm)))
    (lSm : K.lookup fSm = some ⟨ocSm, odSm, .func (PySem.W.fnOf "_law_sums" "_law_sums" (defArgs sSms) (defBody sSms) (defScope sSms) .none kVSm dcSm pmSm anSm cdSm ctSm), slSm⟩)
    (cSm : PySem.W.codeIn K cdSm "_law_sums" = true) (kSm : PySem.W.keepIn K (.ref fSm) = true)
    {fCk : Addr} {odCk anCk : Option Addr} {slCk : Array (Option Value)} {ocCk kVCk dcCk pmCk cdCk ctCk : Value}
    (aCk : PySem.W.nsIn K mainGlobals "_check_tree" = some (some (.ref fCk)))
    (lCk : K.lookup fCk = some ⟨ocCk, odCk, .func (PySem.W.fnOf "_check_tree" "_check_tree" (defArgs sChk) (defBody sChk) (defScope sChk) .none kVCk dcCk pmCk anCk cdCk ctCk), slCk⟩)
    (cCk : PySem.W.codeIn K cdCk "_check_tree" = true) (kCk : PySem.W.keepIn K (.ref fCk) = true)
    {fOf : Addr} {odOf anOf : Option Addr} {slOf : Array (Option Value)} {ocOf kVOf dcOf pmOf cdOf ctOf : Value}
    (aOf : PySem.W.nsIn K mainGlobals "outcome_of" = some (some (.ref fOf)))
    (lOf : K.lookup fOf = some ⟨ocOf, odOf, .func (PySem.W.fnOf "outcome_of" "outcome_of" (defArgs sOof) (defBody sOof) (defScope sOof) .none kVOf dcOf pmOf anOf cdOf ctOf), slOf⟩)
    (cOf : PySem.W.codeIn K cdOf "outcome_of" = true) (kOf : PySem.W.keepIn K (.ref fOf) = true)
    {fMd : Addr} {odMd anMd : Option Addr} {slMd : Array (Option Value)} {ocMd kVMd dcMd pmMd cdMd ctMd : Value}
    (aMd : PySem.W.nsIn K mainGlobals "sums_made" = some (some (.ref fMd)))
    (lMd : K.lookup fMd = some ⟨ocMd, odMd, .func (PySem.W.fnOf "sums_made" "sums_made" (defArgs sSmd) (defBody sSmd) (defScope sSmd) .none kVMd dcMd pmMd anMd cdMd ctMd), slMd⟩)
    (cMd : PySem.W.codeIn K cdMd "sums_made" = true) (kMd : PySem.W.keepIn K (.ref fMd) = true)
    {fRk : Addr} {odRk anRk : Option Addr} {slRk : Array (Option Value)} {ocRk kVRk dcRk pmRk cdRk ctRk : Value}
    (aRk : PySem.W.nsIn K mainGlobals "rank_of" = some (some (.ref fRk)))
    (lRk : K.lookup fRk = some ⟨ocRk, odRk, .func (PySem.W.fnOf "rank_of" "rank_of" (defArgs sRk) (defBody sRk) (defScope sRk) .none kVRk dcRk pmRk anRk cdRk ctRk), slRk⟩)
    (cRk : PySem.W.codeIn K cdRk "rank_of" = true) (kRk : PySem.W.keepIn K (.ref fRk) = true)
    {fTd : Addr} {odTd anTd : Option Addr} {slTd : Array (Option Value)} {ocTd kVTd dcTd pmTd cdTd ctTd : Value}
    (aTd : PySem.W.nsIn K mainGlobals "_law_tree" = some (some (.ref fTd)))
    (lTd : K.lookup fTd = some ⟨ocTd, odTd, .func (PySem.W.fnOf "_law_tree" "_law_tree" (defArgs sTreeD) (defBody sTreeD) (defScope sTreeD) .none kVTd dcTd pmTd anTd cdTd ctTd), slTd⟩)
    (cTd : PySem.W.codeIn K cdTd "_law_tree" = true) (kTd : PySem.W.keepIn K (.ref fTd) = true)
    {fTo : Addr} {odTo anTo : Option Addr} {slTo : Array (Option Value)} {ocTo kVTo dcTo pmTo cdTo ctTo : Value}
    (aTo : PySem.W.nsIn K mainGlobals "_law_told" = some (some (.ref fTo)))
    (lTo : K.lookup fTo = some ⟨ocTo, odTo, .func (PySem.W.fnOf "_law_told" "_law_told" (defArgs sTold) (defBody sTold) (defScope sTold) .none kVTo dcTo pmTo anTo cdTo ctTo), slTo⟩)
    (cTo : PySem.W.codeIn K cdTo "_law_told" = true) (kTo : PySem.W.keepIn K (.ref fTo) = true)
    {fLa : Addr} {odLa anLa : Option Addr} {slLa : Array (Option Value)} {ocLa kVLa dcLa pmLa cdLa ctLa : Value}
    (aLa : PySem.W.nsIn K mainGlobals "law" = some (some (.ref fLa)))
    (lLa : K.lookup fLa = some ⟨ocLa, odLa, .func (PySem.W.fnOf "law" "law" (defArgs sLaw) (defBody sLaw) (defScope sLaw) .none kVLa dcLa pmLa anLa cdLa ctLa), slLa⟩)
    (cLa : PySem.W.codeIn K cdLa "law" = true) (kLa : PySem.W.keepIn K (.ref fLa) = true)
    (z_len : PySem.W.nsIn K mainGlobals "len" = some none)
    (z_range : PySem.W.nsIn K mainGlobals "range" = some none)
    (z_max : PySem.W.nsIn K mainGlobals "max" = some none)
    (z_min : PySem.W.nsIn K mainGlobals "min" = some none)
    (z_isinstance : PySem.W.nsIn K mainGlobals "isinstance" = some none)
    (z_tuple : PySem.W.nsIn K mainGlobals "tuple" = some none)
    (z_list : PySem.W.nsIn K mainGlobals "list" = some none)
    (z_str : PySem.W.nsIn K mainGlobals "str" = some none)
    (z_all : PySem.W.nsIn K mainGlobals "all" = some none)
    (z_abs : PySem.W.nsIn K mainGlobals "abs" = some none)
    (z_int : PySem.W.nsIn K mainGlobals "int" = some none)
    (z_sorted : PySem.W.nsIn K mainGlobals "sorted" = some none)
    (z_repr : PySem.W.nsIn K mainGlobals "repr" = some none)
    (z_ValueError : PySem.W.nsIn K mainGlobals "ValueError" = some none)
    {CT : Addr} (aTb' : PySem.W.nsIn K mainGlobals "Table" = some (some (.ref CT)))
    (pgT : PySem.W.plainGet K CT Str.empty = true) (hdT : PySem.W.hasDictIn K CT = true) (poT : PySem.W.plainOver K CT = true) (saT : PySem.W.findIn K (.ref CT) "__setattr__" = some (some (.builtin "object.__setattr__")))
    (nTC : PySem.W.findIn K (.ref CT) "_classes" = some none) (nTS : PySem.W.findIn K (.ref CT) "_sums" = some none) (mksT : PySem.W.makesIn K CT = true) (kpT : PySem.W.keepIn K (.ref CT) = true)
    {fTi : Addr} {odTi anTi : Option Addr} {slTi : Array (Option Value)} {ocTi kVTi dcTi pmTi cdTi ctTi : Value}
    (atTi : PySem.W.findIn K (.ref CT) "__init__" = some (some (.ref fTi)))
    (lTi : K.lookup fTi = some ⟨ocTi, odTi, .func (PySem.W.fnOf "__init__" "Table.__init__" (defArgs sTin) (defBody sTin) (defScope sTin) .none kVTi dcTi pmTi anTi cdTi ctTi), slTi⟩)
    (cTi : PySem.W.codeIn K cdTi "Table.__init__" = true) (kTi : PySem.W.keepIn K (.ref fTi) = true) (fnTi : PySem.W.isFn K (.ref fTi) = true)
    {fTc : Addr} {odTc anTc : Option Addr} {slTc : Array (Option Value)} {ocTc kVTc dcTc pmTc cdTc ctTc : Value}
    (atTc : PySem.W.findIn K (.ref CT) "classes" = some (some (.ref fTc)))
    (lTc : K.lookup fTc = some ⟨ocTc, odTc, .func (PySem.W.fnOf "classes" "Table.classes" (defArgs sTcl) (defBody sTcl) (defScope sTcl) .none kVTc dcTc pmTc anTc cdTc ctTc), slTc⟩)
    (cTc : PySem.W.codeIn K cdTc "Table.classes" = true) (kTc : PySem.W.keepIn K (.ref fTc) = true) (fnTc : PySem.W.isFn K (.ref fTc) = true)
    {fSo : Addr} {odSo anSo : Option Addr} {slSo : Array (Option Value)} {ocSo kVSo dcSo pmSo cdSo ctSo : Value}
    (atSo : PySem.W.findIn K (.ref CT) "sum_of" = some (some (.ref fSo)))
    (lSo : K.lookup fSo = some ⟨ocSo, odSo, .func (PySem.W.fnOf "sum_of" "Table.sum_of" (defArgs sTsm) (defBody sTsm) (defScope sTsm) .none kVSo dcSo pmSo anSo cdSo ctSo), slSo⟩)
    (cSo : PySem.W.codeIn K cdSo "Table.sum_of" = true) (kSo : PySem.W.keepIn K (.ref fSo) = true) (fnSo : PySem.W.isFn K (.ref fSo) = true)
    {fGi : Addr} {odGi anGi : Option Addr} {slGi : Array (Option Value)} {ocGi kVGi dcGi pmGi cdGi ctGi : Value}
    (atGi : PySem.W.findIn K (.ref CT) "__getitem__" = some (some (.ref fGi)))
    (lGi : K.lookup fGi = some ⟨ocGi, odGi, .func (PySem.W.fnOf "__getitem__" "Table.__getitem__" (defArgs sTgi) (defBody sTgi) (defScope sTgi) .none kVGi dcGi pmGi anGi cdGi ctGi), slGi⟩)
    (cGi : PySem.W.codeIn K cdGi "Table.__getitem__" = true) (kGi : PySem.W.keepIn K (.ref fGi) = true) (fnGi : PySem.W.isFn K (.ref fGi) = true)
    (jC : PySem.W.findIn K (.ref CT) "__class__" = some (some (.builtin "object.__class__")))
    (jN : PySem.W.specialIn K (.builtin "object.__class__") "__get__" = some (some (.builtin "getset_descriptor.__get__")))
    (jT : PySem.W.takesIn K (.builtin "object.__class__") = some true)
    (jM : PySem.W.mroIn K CT (.type "object") = some true)
    (nfT : PySem.W.notFirst K CT (.ref CT) = true)
    {aTk : Addr} {dTk : Option Addr} {nTk : Nat} {slTk : Array (Option Value)} {xTk0 xTk1 xTk2 xTk3 : Tok}
    (mTk : PySem.W.nsIn K mainGlobals "_TAKEN" = some (some (.ref aTk)))
    (lTk : K.lookup aTk = some ⟨.type "tuple", dTk, .seq #[.str "self" xTk0, .str "other" xTk1, .str "super" xTk2, .str "raises" xTk3] nTk, slTk⟩)
    (xT : ∃ C fI, VT.Own K mg 10 C ∧ VZ.TxtF P K mg C fI "NoTree.__init__" "tree" "not a tree" "ValueError" "ValueError.__init__" "ValueError.__new__" VB.veT)
    (xR : ∃ C fI, VT.Own K mg 8 C ∧ VZ.TxtF P K mg C fI "NoRow.__init__" "row" "not a row" "ValueError" "ValueError.__init__" "ValueError.__new__" VB.veT)
    (fiGi : PySem.W.fnIn K fGi = true) :
    ∃ fd : FuncData, (∀ (s : Shared) (u : Value), BindsTo s fd ⟨[u], []⟩ [("_law_script", u)]) ∧
      ∀ base : Heap, K.In base → base.Ns mainGlobals mg → GOk P w K mg base CX0 11 fa fd ["_law_script"] (spLaw K) := by
  have e := hfa.symm.trans (PySem.W.mg_of X G aLa)
  cases e
  have FNa := fun_mk (st := sName) lNa cNa kNa
  have bNa := FNa.binds (ps := ["value"]) fun _ _ _ _ _ _ us hl => match us, hl with | [_], _ => rfl
  have mNa := PySem.W.mg_of X G aNa
  have FIt := fun_mk (st := sIsTree) lIt cIt kIt
  have bIt := FIt.binds (ps := ["value"]) fun _ _ _ _ _ _ us hl => match us, hl with | [_], _ => rfl
  have mIt := PySem.W.mg_of X G aIt
  have FPf := fun_mk (st := sPost) lPf cPf kPf
  have bPf := FPf.binds (ps := ["tree"]) fun _ _ _ _ _ _ us hl => match us, hl with | [_], _ => rfl
  have mPf := PySem.W.mg_of X G aPf
  have FLv := fun_mk (st := sLeaves) lLv cLv kLv
  have bLv := FLv.binds (ps := ["tree"]) fun _ _ _ _ _ _ us hl => match us, hl with | [_], _ => rfl
  have mLv := PySem.W.mg_of X G aLv
  have FBa := fun_mk (st := sBag) lBa cBa kBa
  have bBa := FBa.binds (ps := ["_law_script", "_law_at"]) fun _ _ _ _ _ _ us hl => match us, hl with | [_, _], _ => rfl
  have mBa := PySem.W.mg_of X G aBa
  have FTa := fun_mk (st := sTake) lTa cTa kTa
  have bTa := FTa.binds (ps := ["_law_bag_here", "_law_many"]) fun _ _ _ _ _ _ us hl => match us, hl with | [_, _], _ => rfl
  have mTa := PySem.W.mg_of X G aTa
  have FNm := fun_mk (st := sNames) lNm cNm kNm
  have bNm := FNm.binds (ps := ["_law_bag_here", "_law_many"]) fun _ _ _ _ _ _ us hl => match us, hl with | [_, _], _ => rfl
  have mNm := PySem.W.mg_of X G aNm
  have FSm := fun_mk (st := sSms) lSm cSm kSm
  have bSm := FSm.binds (ps := ["_law_bag_here", "_law_names_here"]) fun _ _ _ _ _ _ us hl => match us, hl with | [_, _], _ => rfl
  have mSm := PySem.W.mg_of X G aSm
  have FCk := fun_mk (st := sChk) lCk cCk kCk
  have bCk := FCk.binds (ps := ["tree", "classes"]) fun _ _ _ _ _ _ us hl => match us, hl with | [_, _], _ => rfl
  have mCk := PySem.W.mg_of X G aCk
  have FOf := fun_mk (st := sOof) lOf cOf kOf
  have bOf := FOf.binds (ps := ["table", "tree"]) fun _ _ _ _ _ _ us hl => match us, hl with | [_, _], _ => rfl
  have mOf := PySem.W.mg_of X G aOf
  have FMd := fun_mk (st := sSmd) lMd cMd kMd
  have bMd := FMd.binds (ps := ["table", "tree"]) fun _ _ _ _ _ _ us hl => match us, hl with | [_, _], _ => rfl
  have mMd := PySem.W.mg_of X G aMd
  have FRk := fun_mk (st := sRk) lRk cRk kRk
  have bRk := FRk.binds (ps := ["table", "tree"]) fun _ _ _ _ _ _ us hl => match us, hl with | [_, _], _ => rfl
  have mRk := PySem.W.mg_of X G aRk
  have FTd := fun_mk (st := sTreeD) lTd cTd kTd
  have bTd := FTd.binds (ps := ["_law_bag_here", "_law_row"]) fun _ _ _ _ _ _ us hl => match us, hl with | [_, _], _ => rfl
  have mTd := PySem.W.mg_of X G aTd
  have FTo := fun_mk (st := sTold) lTo cTo kTo
  have bTo := FTo.binds (ps := ["_law_way", "_law_table", "_law_tree_here"]) fun _ _ _ _ _ _ us hl => match us, hl with | [_, _, _], _ => rfl
  have mTo := PySem.W.mg_of X G aTo
  have FLa := fun_mk (st := sLaw) lLa cLa kLa
  have g_len := PySem.W.mg_none_of X G z_len
  have g_range := PySem.W.mg_none_of X G z_range
  have g_max := PySem.W.mg_none_of X G z_max
  have g_min := PySem.W.mg_none_of X G z_min
  have g_isinstance := PySem.W.mg_none_of X G z_isinstance
  have g_tuple := PySem.W.mg_none_of X G z_tuple
  have g_list := PySem.W.mg_none_of X G z_list
  have g_str := PySem.W.mg_none_of X G z_str
  have g_all := PySem.W.mg_none_of X G z_all
  have g_abs := PySem.W.mg_none_of X G z_abs
  have g_int := PySem.W.mg_none_of X G z_int
  have g_sorted := PySem.W.mg_none_of X G z_sorted
  have g_repr := PySem.W.mg_none_of X G z_repr
  have g_ValueError := PySem.W.mg_none_of X G z_ValueError
  refine ⟨PySem.W.fnOf "law" "law" (defArgs sLaw) (defBody sLaw) (defScope sLaw) .none kVLa dcLa pmLa anLa cdLa ctLa, fun s u => .of_eq rfl, fun base _ _ => ?_⟩
  have FTi := fun_mk (st := sTin) lTi cTi kTi
  have bTi := FTi.binds (ps := ["self", "classes", "sums"]) fun _ _ _ _ _ _ us hl => match us, hl with | [_, _, _], _ => rfl
  have FTc := fun_mk (st := sTcl) lTc cTc kTc
  have bTc := FTc.binds (ps := ["self"]) fun _ _ _ _ _ _ us hl => match us, hl with | [_], _ => rfl
  have FSo := fun_mk (st := sTsm) lSo cSo kSo
  have bSo := FSo.binds (ps := ["self", "left", "right"]) fun _ _ _ _ _ _ us hl => match us, hl with | [_, _, _], _ => rfl
  have FGi := fun_mk (st := sTgi) lGi cGi kGi
  have bGi := FGi.binds (ps := ["self", "at"]) fun _ _ _ _ _ _ us hl => match us, hl with | [_, _], _ => rfl
  have TT : TbT K mg CT fTi := ⟨PySem.W.mg_of X G aTb', ⟨pgT, hdT, poT, saT⟩, nTC, nTS, ⟨mksT, atTi, fnTi, kpT⟩⟩
  have GTi := ok_tin (P := P) (w := w) (mg := mg) (base := base) FTi TT g_list
  have SIT : SlX.SIsi K CT := ⟨jC, jN, jT, jM⟩
  have hTk : ∀ H, SqT K H aTk (taken.map V.str) := fun H => Or.inr ⟨_, _, _, lTk, rfl, rfl, (by show 4 ≤ sizeLine; decide), (.cons ⟨_, rfl⟩ (.cons ⟨_, rfl⟩ (.cons ⟨_, rfl⟩ (.cons ⟨_, rfl⟩ .nil))))⟩
  have GNa := ok_name (P := P) (w := w) (mg := mg) (base := base) FNa g_isinstance g_str g_len g_all (PySem.W.mg_of X G mTk) hTk
  have GIt := ok_isTree (P := P) (w := w) (mg := mg) (base := base) FIt GNa bNa mNa kNa g_isinstance g_tuple g_len
  have GPf := ok_post (P := P) (w := w) (mg := mg) (base := base) FPf g_isinstance g_str
  have GLv := ok_leaves (P := P) (w := w) (mg := mg) (base := base) FLv GPf bPf mPf kPf g_tuple
  have GTa := ok_take (P := P) (w := w) (mg := mg) (base := base) FTa
  have GBa := ok_bag (P := P) (w := w) (mg := mg) (base := base) FBa g_len g_abs g_int
  have GNm := ok_names (P := P) (w := w) (mg := mg) (base := base) FNm GTa bTa mTa kTa g_range g_sorted
  have GSm := ok_sms (P := P) (w := w) (mg := mg) (base := base) FSm GTa bTa mTa kTa g_len g_range g_max g_min g_sorted
  obtain ⟨CN, fN, O10, N⟩ := xT
  obtain ⟨c2, _, O8, _⟩ := xR
  have mN : mg "NoTree" = some (.ref CN) := O10.m
  have Er : ErrT K mg CN c2 := ⟨O10.ec, O10.xf, PySem.W.exm_ref O10.ec.hs O10.ec.hd O10.ty (by show PySem.W.mroIn K CN _ = _; rw [O10.mro, List.contains_cons]; simp), (O10.kitT (by decide +kernel)).trans (by decide +kernel),
    (O10.kit O8).trans (show some (decide ((10 : Fin 12) = 8)) = some false by decide), O8.m⟩
  have GTc := ok_tcl (P := P) (w := w) (mg := mg) (base := base) FTc TT g_list
  have GSo := ok_tsm (P := P) (w := w) (mg := mg) (base := base) FSo TT
  have GGi := ok_tgi (P := P) (w := w) (mg := mg) (base := base) FGi TT GSo bSo ⟨atSo, fnSo, kSo⟩
  have GCX := ok_chkX (P := P) (w := w) (mg := mg) (base := base) FCk GIt bIt mIt kIt GLv bLv mLv kLv g_all N mN
  have GMd := ok_smd (P := P) (w := w) (mg := mg) (base := base) FMd TT GPf bPf mPf kPf GGi bGi atGi fiGi fnGi
  have GOX := ok_oofX (P := P) (w := w) (mg := mg) (base := base) FOf TT GTc bTc ⟨atTc, fnTc, kTc⟩ GMd bMd mMd kMd GCX bCk mCk kCk
  have GRX := ok_rkX (P := P) (w := w) (mg := mg) (base := base) FRk TT GTc bTc ⟨atTc, fnTc, kTc⟩ GCX bCk mCk kCk
  have GTd := ok_treeD (P := P) (w := w) (mg := mg) (base := base) FTd bTd mTd GTa bTa mTa kTa g_len
  have GTo := ok_told (P := P) (w := w) (mg := mg) (base := base) FTo GOX bOf mOf kOf GRX bRk mRk kRk N mN Er g_isinstance g_ValueError g_repr
  exact ok_law FLa TT GTi bTi GBa bBa mBa kBa GTa bTa mTa kTa GNm bNm mNm kNm GSm bSm mSm kSm (GTd 9) bTd mTd kTd GIt bIt mIt kIt GTo bTo mTo kTo g_len g_range g_max g_min g_tuple g_repr
end K89
open PySem PySem.W PyProof.Rows
set_option maxRecDepth 100000 in
set_option maxHeartbeats 0 in
theorem PySem.Challenge.cw_eitherside_k89_odd_leaves_deep_down_holds : PySem.Challenge.rw_eitherside_k89_odd_leaves_deep_down.Holds := by
  w_on; o_law; k_head; (case hw => w_witness2)
  k_fill
  refine Vr.end_of (l := PySem.Challenge.rw_eitherside_k89_odd_leaves_deep_down) (n := 63) (k := 11) (x := "_law_script") (sp := K89.spLaw) rfl (by decide) rfl ⟨rfl, by decide, by decide⟩ (fun w h Y => PySem.W.kIn_of Y) ?F (fun K H a ns hl _ hS => ⟨a, ns, rfl, hS, hl, fun _ => rfl⟩)
  case F =>
    intro w mg fa h KX G hmg
    refine' K89.all_mk KX G hmg ?aNa ?lNa ?cNa ?kNa ?aIt ?lIt ?cIt ?kIt ?aPf ?lPf ?cPf ?kPf ?aLv ?lLv ?cLv ?kLv ?aBa ?lBa ?cBa ?kBa ?aTa ?lTa ?cTa ?kTa ?aNm ?lNm ?cNm ?kNm ?aSm ?lSm ?cSm ?kSm ?aCk ?lCk ?cCk ?kCk ?aOf ?lOf ?cOf ?kOf ?aMd ?lMd ?cMd ?kMd ?aRk ?lRk ?cRk ?kRk ?aTd ?lTd ?cTd ?kTd ?aTo ?lTo ?cTo ?kTo ?aLa ?lLa ?cLa ?kLa ?z_len ?z_range ?z_max ?z_min ?z_isinstance ?z_tuple ?z_list ?z_str ?z_all ?z_abs ?z_int ?z_sorted ?z_repr ?z_ValueError ?aTb' ?pgT ?hdT ?poT ?saT ?nTC ?nTS ?mksT ?kpT ?atTi ?lTi ?cTi ?kTi ?fnTi ?atTc ?lTc ?cTc ?kTc ?fnTc ?atSo ?lSo ?cSo ?kSo ?fnSo ?atGi ?lGi ?cGi ?kGi ?fnGi ?jC ?jN ?jT ?jM ?nfT ?mTk ?lTk ?xT ?xR ?fiGi
    (case aNa => k_is)
    (case lNa => k_is)
    (case cNa => k_is)
    (case kNa => k_is)
    (case aIt => k_is)
    (case lIt => k_is)
    (case cIt => k_is)
    (case kIt => k_is)
    (case aPf => k_is)
    (case lPf => k_is)
    (case cPf => k_is)
    (case kPf => k_is)
    (case aLv => k_is)
    (case lLv => k_is)
    (case cLv => k_is)
    (case kLv => k_is)
    (case aBa => k_is)
    (case lBa => k_is)
    (case cBa => k_is)
    (case kBa => k_is)
    (case aTa => k_is)
    (case lTa => k_is)
    (case cTa => k_is)
    (case kTa => k_is)
    (case aNm => k_is)
    (case lNm => k_is)
    (case cNm => k_is)
    (case kNm => k_is)
    (case aSm => k_is)
    (case lSm => k_is)
    (case cSm => k_is)
    (case kSm => k_is)
    (case aCk => k_is)
    (case lCk => k_is)
    (case cCk => k_is)
    (case kCk => k_is)
    (case aOf => k_is)
    (case lOf => k_is)
    (case cOf => k_is)
    (case kOf => k_is)
    (case aMd => k_is)
    (case lMd => k_is)
    (case cMd => k_is)
    (case kMd => k_is)
    (case aRk => k_is)
    (case lRk => k_is)
    (case cRk => k_is)
    (case kRk => k_is)
    (case aTd => k_is)
    (case lTd => k_is)
    (case cTd => k_is)
    (case kTd => k_is)
    (case aTo => k_is)
    (case lTo => k_is)
    (case cTo => k_is)
    (case kTo => k_is)
    (case aLa => k_is)
    (case lLa => k_is)
    (case cLa => k_is)
    (case kLa => k_is)
    (case z_len => k_is)
    (case z_range => k_is)
    (case z_max => k_is)
    (case z_min => k_is)
    (case z_isinstance => k_is)
    (case z_tuple => k_is)
    (case z_list => k_is)
    (case z_str => k_is)
    (case z_all => k_is)
    (case z_abs => k_is)
    (case z_int => k_is)
    (case z_sorted => k_is)
    (case z_repr => k_is)
    (case z_ValueError => k_is)
    (case aTb' => k_is)
    (case pgT => k_is)
    (case hdT => k_is)
    (case poT => k_is)
    (case saT => k_is)
    (case nTC => k_is)
    (case nTS => k_is)
    (case mksT => k_is)
    (case kpT => k_is)
    (case atTi => k_is)
    (case lTi => k_is)
    (case cTi => k_is)
    (case kTi => k_is)
    (case fnTi => k_is)
    (case atTc => k_is)
    (case lTc => k_is)
    (case cTc => k_is)
    (case kTc => k_is)
    (case fnTc => k_is)
    (case atSo => k_is)
    (case lSo => k_is)
    (case cSo => k_is)
    (case kSo => k_is)
    (case fnSo => k_is)
    (case atGi => k_is)
    (case lGi => k_is)
    (case cGi => k_is)
    (case kGi => k_is)
    (case fnGi => k_is)
    (case jC => k_is)
    (case jN => k_is)
    (case jT => k_is)
    (case jM => k_is)
    (case nfT => k_is)
    (case mTk => k_is)
    (case lTk => k_is)
    (case xT => 
      refine' VT.ownF_mk KX G 10 (n := "NoTree") (f := "tree") (qual := "NoTree.__init__") (lit := "not a tree") rfl rfl rfl rfl VT.sbVE ?tp ?su ?pt ?hs ?ht ?a ?x ?sa ?no ?ga ?gg ?ic ?tc ?kc ?ha (fun _ _ _ _ _ _ _ _ _ _ _ => by rfl) (fun _ _ _ _ _ _ _ _ _ _ _ => by rfl) ⟨by rfl, by rfl, by rfl, by rfl⟩ (by decide +kernel) (by decide +kernel) (p1 := ⟨17, 17, 17, 21⟩) (p2 := ⟨17, 23, 17, 27⟩) (q1 := ⟨18, 8, 18, 13⟩) (q2 := ⟨18, 8, 18, 15⟩) (q3 := ⟨18, 8, 18, 24⟩) (q4 := ⟨18, 25, 18, 37⟩) (q5 := ⟨18, 8, 18, 38⟩) (q6 := ⟨18, 8, 18, 38⟩) (q7 := ⟨19, 8, 19, 12⟩) (q8 := ⟨19, 8, 19, 17⟩) (q9 := ⟨19, 20, 19, 24⟩) (qa := ⟨19, 8, 19, 24⟩) ?lI (by decide +kernel) ?cI ?lc ?ld ?lv ?lf
      (case tp => k_is)
      (case su => k_is)
      (case pt => first | rfl | decide +kernel | k_is)
      (case hs => k_is)
      (case ht => k_is)
      (case a => k_is)
      (case x => k_is)
      (case sa => k_is)
      (case no => k_is)
      (case ga => k_is)
      (case gg => k_is)
      (case ic => k_is)
      (case tc => k_is)
      (case kc => k_is)
      (case ha => k_is)
      (case lI => k_is)
      (case cI => k_is)
      (case lc => k_is)
      (case ld => k_is)
      (case lv => first | rfl | k_is)
      (case lf => first | rfl | decide +kernel | k_is)
    )
    (case xR => 
      refine' VT.ownF_mk KX G 8 (n := "NoRow") (f := "row") (qual := "NoRow.__init__") (lit := "not a row") rfl rfl rfl rfl VT.sbVE ?tp ?su ?pt ?hs ?ht ?a ?x ?sa ?no ?ga ?gg ?ic ?tc ?kc ?ha (fun _ _ _ _ _ _ _ _ _ _ _ => by rfl) (fun _ _ _ _ _ _ _ _ _ _ _ => by rfl) ⟨by rfl, by rfl, by rfl, by rfl⟩ (by decide +kernel) (by decide +kernel) (p1 := ⟨12, 17, 12, 21⟩) (p2 := ⟨12, 23, 12, 26⟩) (q1 := ⟨13, 8, 13, 13⟩) (q2 := ⟨13, 8, 13, 15⟩) (q3 := ⟨13, 8, 13, 24⟩) (q4 := ⟨13, 25, 13, 36⟩) (q5 := ⟨13, 8, 13, 37⟩) (q6 := ⟨13, 8, 13, 37⟩) (q7 := ⟨14, 8, 14, 12⟩) (q8 := ⟨14, 8, 14, 16⟩) (q9 := ⟨14, 19, 14, 22⟩) (qa := ⟨14, 8, 14, 22⟩) ?lI (by decide +kernel) ?cI ?lc ?ld ?lv ?lf
      (case tp => k_is)
      (case su => k_is)
      (case pt => first | rfl | decide +kernel | k_is)
      (case hs => k_is)
      (case ht => k_is)
      (case a => k_is)
      (case x => k_is)
      (case sa => k_is)
      (case no => k_is)
      (case ga => k_is)
      (case gg => k_is)
      (case ic => k_is)
      (case tc => k_is)
      (case kc => k_is)
      (case ha => k_is)
      (case lI => k_is)
      (case cI => k_is)
      (case lc => k_is)
      (case ld => k_is)
      (case lv => first | rfl | k_is)
      (case lf => first | rfl | decide +kernel | k_is)
    )
    (case fiGi => k_is)
